/- Package due: New, Len, At, Put, Move, Drop. -/
import Derived.Test.YtkagacopgjcdnaaDueF
set_option linter.unusedSimpArgs false
set_option linter.unusedVariables false
namespace Go.Proofs.Ytkagacopgjcdnaa
open Go Go.RowKit Go.Tum Go.ChangeMaps Go.Tum.Hp

/-- A heap whose blocks lie above B: the times of its ids, its row. -/
structure HB (B : Nat) (w : World) (p mt mp : Nat) (At : UInt64 → Option Int) (row : List UInt64) (v : Value) : Prop where
  tr : Tr B w p mt mp row.length At row v
  has : ∀ x, (At x).isSome = decide (x ∈ row)
  hp : HP (rowK At row) row.length
  bp : B ≤ p
  bt : B ≤ mt
  bm : B ≤ mp
theorem HB.ext {B : Nat} {w w' : World} {p mt mp : Nat} {At : UInt64 → Option Int} {row : List UInt64} {v : Value} (h : HB B w p mt mp At row v) (k : Ext w w') : HB B w' p mt mp At row v := ⟨h.tr.ext k, h.has, h.hp, h.bp, h.bt, h.bm⟩
theorem turn_first {w w1 w2 : World} {p mt mp q : Nat} {v v' : Value} (hq : q ∈ Hb p mt mp v) (f : Fr [q] w w1) (t : Turn w1 w2 p mt mp v v') : Turn w w2 p mt mp v v' := by
  refine ⟨(f.mono (by intro x hx; obtain rfl : x = q := (by simpa using hx); exact hq)).trans t.1, fun x hx => ?_⟩
  rcases t.2 x hx with h | h
  · exact .inl h
  · have := f.size; exact .inr (by omega)
theorem turn_last {w w1 w2 : World} {p mt mp q : Nat} {v v' : Value} (hq : q ∈ Hb p mt mp v) (t : Turn w w1 p mt mp v v') (f : Fr [q] w1 w2) : Turn w w2 p mt mp v v' :=
  ⟨t.1.trans (f.mono (by intro x hx; obtain rfl : x = q := (by simpa using hx); exact hq)), t.2⟩
theorem turn_ext {w w1 w2 : World} {p mt mp : Nat} {v v' : Value} (e : Ext w w1) (t : Turn w1 w2 p mt mp v v') : Turn w w2 p mt mp v v' := by
  refine ⟨(Ext.fr e).trans t.1, fun x hx => ?_⟩
  rcases t.2 x hx with h | h
  · exact .inl h
  · have := e.size; exact .inr (by omega)
theorem ah_but {f g : Nat → Int} {n i : Nat} (h : AH f n i) (hi : i < n) (e : ∀ j, j < n → j ≠ i → f j = g j) : AH g n i := by
  refine ⟨fun j j0 jn a b => ?_, fun j j0 jn a b => ?_⟩
  · have := par_lt j0
    rw [← e j jn a, ← e (par j) (by omega) b]; exact h.1 j j0 jn a b
  · have := par_lt b
    have := par_lt j0
    rw [← e j jn (by omega), ← e (par i) (by omega) (by omega)]; exact h.2 j j0 jn a b
theorem key_set {At : UInt64 → Option Int} {x y : UInt64} {a : Int} (h : y ≠ x) : keyI (setF At x a) y = keyI At y := by unfold keyI tim setF; rw [if_neg h]
theorem key_del {At : UInt64 → Option Int} {x y : UInt64} (h : y ≠ x) : keyI (delF At x) y = keyI At y := by unfold keyI tim delF; rw [if_neg h]
theorem rowK_set {At : UInt64 → Option Int} {row : List UInt64} {x : UInt64} {a : Int} (hx : x ∉ row) : ∀ j, j < row.length → rowK At row j = rowK (setF At x a) row j := by
  intro j hj
  rw [rowK_at hj, rowK_at hj, key_set fun e => hx (by rw [← e]; exact List.getElem_mem hj)]
theorem rowK_del {At : UInt64 → Option Int} {row : List UInt64} {x : UInt64} (hx : x ∉ row) : ∀ j, j < row.length → rowK At row j = rowK (delF At x) row j := by
  intro j hj
  rw [rowK_at hj, rowK_at hj, key_del fun e => hx (by rw [← e]; exact List.getElem_mem hj)]

theorem hnew_any (w : World) (B : Nat) (hB : B ≤ w.heap.size) : Calls Try.prog 7 #[] w fun e w' => ∃ p mt mp, e = .returned (pv p) ∧ HB B w' p mt mp (fun _ => none) [] (.slice none 0 0) ∧ Ext w w' := by
  have hmm := @run_makeMap Try.prog
  go_enter Try.func7, Try.ntmps7
  go_wp2
  go_ret
  have e1 : Ext w (w.alloc (.map #[] 0)) := Ext.alloc _ _
  refine ⟨w.heap.size + 1 + 1, w.heap.size, w.heap.size + 1, rfl, ⟨⟨?_, ?_, ?_, OwV.nil _ _ _, by simp, by omega⟩, by simp, fun j _ h => absurd h (by simp), by omega, by omega, by omega⟩, ((Ext.alloc _ _).trans (Ext.alloc _ _)).trans (Ext.alloc _ _)⟩
  · have := heap_alloc_new ((w.alloc (.map #[] 0)).alloc (.map #[] 0)) (heapO w.heap.size (w.heap.size + 1) (.slice none 0 0))
    rw [World.size_alloc, World.size_alloc] at this
    exact this
  · exact ((MI.made .u64 w).fr (S := []) (Ext.fr (Ext.alloc _ _)) (by simp)).fr (S := []) (Ext.fr (Ext.alloc _ _)) (by simp)
  · have := (MI.made .i64 (w.alloc (.map #[] 0))).fr (S := []) (Ext.fr (Ext.alloc _ (heapO w.heap.size (w.heap.size + 1) (.slice none 0 0)))) (by simp)
    rw [World.size_alloc] at this
    exact this.congr fun x => by simp [plF]
theorem hlen_any (B : Nat) (w : World) (p mt mp : Nat) (At : UInt64 → Option Int) (row : List UInt64) (v : Value) (h : HB B w p mt mp At row v) :
    Calls Try.prog 20 #[pv p] w fun e w' => e = .returned (.int .i64 (row.length : Nat)) ∧ w = w' := by
  obtain ⟨c0, -⟩ := lk3 h.tr.hd
  have hlk := h.tr.ti.len Try.underlying44
  clear h
  go_enter Try.func20, Try.ntmps20
  go_wp2
  go_ret
  exact ⟨rfl, rfl⟩
def atV (At : UInt64 → Option Int) (x : UInt64) : Value := .tuple #[.int .u64 (tim At x), .bool (At x).isSome]
theorem hat_any (B : Nat) (w : World) (p mt mp : Nat) (At : UInt64 → Option Int) (row : List UInt64) (v : Value) (x : UInt64) (h : HB B w p mt mp At row v) :
    Calls Try.prog 18 #[pv p, vU x] w fun e w' => e = .returned (atV At x) ∧ w = w' := by
  obtain ⟨c0, -⟩ := lk3 h.tr.hd
  have hlk := h.tr.ti.look_ok Try.underlying44 (Try.zeroValue23 _) x
  unfold atV tim
  generalize (At x).getD 0 = t at *
  generalize (At x).isSome = bb at *
  clear h
  go_enter Try.func18, Try.ntmps18
  go_wp2
  go_returns
  exact ⟨rfl, rfl⟩
def HPutP (B : Nat) (w : World) (p mt mp : Nat) (At : UInt64 → Option Int) (row : List UInt64) (v : Value) (x : UInt64) (a : Int) (e : Ending) (w' : World) : Prop :=
  (x ∈ row → e = .returned (.bool false) ∧ w = w') ∧ (x ∉ row → e = .returned (.bool true) ∧ ∃ row' v', row'.Perm (row ++ [x]) ∧ HB B w' p mt mp (setF At x a) row' v' ∧ Below B w w' ∧ Turn w w' p mt mp v v')
set_option maxHeartbeats 1000000 in
theorem hput_any (B : Nat) (w : World) (p mt mp : Nat) (At : UInt64 → Option Int) (row : List UInt64) (v : Value) (x a : UInt64) (h : HB B w p mt mp At row v) (hl : row.length ≤ 10000) (hB : B ≤ w.heap.size) :
    Calls Try.prog 8 #[pv p, vU x, vU a] w fun e w' => HPutP B w p mt mp At row v x (a.toNat : Int) e w' := by
  obtain ⟨c0, -⟩ := lk3 h.tr.hd
  have hlk := h.tr.ti.look_ok Try.underlying44 (Try.zeroValue23 _) x
  have hhas := h.has x
  by_cases hx : x ∈ row
  · rw [hhas, show decide (x ∈ row) = true by simpa using hx] at hlk
    generalize (At x).getD 0 = t at *
    have HX := hid hx
    clear h hhas hx
    go_enter Try.func8, Try.ntmps8
    go_wp2
    go_ret
    exact ⟨fun _ => ⟨rfl, rfl⟩, fun hn => absurd HX.out hn⟩
  · rw [hhas, show decide (x ∈ row) = false by simpa using hx] at hlk
    generalize (At x).getD 0 = t at *
    obtain ⟨w1, r1, r2, r3⟩ := h.tr.ti.store Try.underlying44 (by omega) x (a.toNat : Int)
    rw [hhas, show decide (x ∈ row) = false by simpa using hx] at r2
    have hf1 := fr_turned (S := [mt]) r3 (by simp)
    obtain ⟨est, ckt, htb⟩ := h.tr.ti.block
    have hpt : p ≠ mt := by
      rintro rfl; rw [h.tr.hd] at htb; cases htb
    have hp1 := (hf1.block p (Array.getElem?_eq_some_iff.1 h.tr.hd).1 (by simpa using hpt)).trans h.tr.hd
    have hT1 : Tr B w1 p mt mp (row.length + 1) (setF At x (a.toNat : Int)) row v := ⟨hp1, r2, h.tr.pl.fr hf1 (by simpa using Ne.symm h.tr.ne), owv_fr h.tr.ow hf1 (by
      intro q hq
      obtain rfl : q = mt := by simpa using hq
      exact ⟨_, htb, map_ne⟩), h.tr.nd, h.tr.ne⟩
    have HT1 := hid hT1
    have HE1 : Hid (Below B w w1) := hid (hf1.below (by simpa using h.bt) hB)
    have HX := hid hx
    have H := hid h
    obtain ⟨d0, -⟩ := lk3 hp1
    have HFT := hid hf1
    clear hf1 htb hpt hp1 hT1 r2 r3 hhas hx h
    go_enter Try.func8, Try.ntmps8
    go_wp2_with fail
    refine (tput_any B w1 p mt mp (row.length + 1) (setF At x (a.toNat : Int)) row v x HT1.out HX.out (H.out.hp.congr (rowK_set HX.out)) (by omega) H.out.bp H.out.bm (Nat.le_trans hB HE1.out.size)).mono ?_
    rintro e w2 ⟨⟨u, rfl⟩, row', v', hpm, hT2, hH2, hE2, hN2⟩
    have hlen : row'.length = row.length + 1 := by rw [hpm.length_eq]; simp
    have HH : Hid (HB B w2 p mt mp (setF At x (a.toNat : Int)) row' v') := hid (by
      refine ⟨by rw [hlen]; exact hT2, fun y => ?_, by rw [hlen]; exact hH2, H.out.bp, H.out.bt, H.out.bm⟩
      unfold setF
      have hmem : y ∈ row' ↔ y ∈ row ∨ y = x := by rw [hpm.mem_iff]; simp
      by_cases hy : y = x
      · subst hy; rw [if_pos rfl]; simp [hmem]
      · rw [if_neg hy, H.out.has y]; simp [hmem, hy])
    have HE2 : Hid (Below B w w2) := hid (HE1.out.trans hE2)
    have HTN := hid (turn_first (v := v) (by simp [Hb]) HFT.out hN2)
    clear hT2 hH2 hE2 hlen hN2
    go_wp2
    go_ret
    exact ⟨fun hn => absurd hn HX.out, fun _ => ⟨rfl, row', v', hpm, HH.out, HE2.out, HTN.out⟩⟩
end Go.Proofs.Ytkagacopgjcdnaa
