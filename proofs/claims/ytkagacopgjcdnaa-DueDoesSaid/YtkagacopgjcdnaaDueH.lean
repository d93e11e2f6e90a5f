/- Package due: Drop, Move, First, Take. -/
import Derived.Test.YtkagacopgjcdnaaDueG
set_option linter.unusedSimpArgs false
set_option linter.unusedVariables false
namespace Go.Proofs.Ytkagacopgjcdnaa
open Go Go.RowKit Go.Tum Go.ChangeMaps Go.Tum.Hp

theorem HB.ti_tr {B : Nat} {w w1 : World} {p mt mp n : Nat} {At At2 : UInt64 → Option Int} {row : List UInt64} {v : Value} (h : Tr B w p mt mp n At row v) {n2 : Nat} (r2 : MI .u64 w1 mt n2 At2) (r3 : w.mapTurned w1 mt) : Tr B w1 p mt mp n2 At2 row v := by
  have hf1 := fr_turned (S := [mt]) r3 (by simp)
  obtain ⟨est, ckt, htb⟩ := h.ti.block
  have hpt : p ≠ mt := by
    rintro rfl; rw [h.hd] at htb; cases htb
  exact ⟨(hf1.block p (Array.getElem?_eq_some_iff.1 h.hd).1 (by simpa using hpt)).trans h.hd, r2, h.pl.fr hf1 (by simpa using Ne.symm h.ne), owv_fr h.ow hf1 (by
      intro q hq
      obtain rfl : q = mt := by simpa using hq
      exact ⟨_, htb, map_ne⟩), h.nd, h.ne⟩
def HDropP (B : Nat) (w : World) (p mt mp : Nat) (At : UInt64 → Option Int) (row : List UInt64) (v : Value) (x : UInt64) (e : Ending) (w' : World) : Prop :=
  (x ∉ row → e = .returned (.bool false) ∧ w = w') ∧ (x ∈ row → e = .returned (.bool true) ∧ ∃ row' v', (x :: row').Perm row ∧ HB B w' p mt mp (delF At x) row' v' ∧ Below B w w' ∧ Turn w w' p mt mp v v')
set_option maxHeartbeats 1000000 in
theorem hdrop_any (B : Nat) (w : World) (p mt mp : Nat) (At : UInt64 → Option Int) (row : List UInt64) (v : Value) (x : UInt64) (h : HB B w p mt mp At row v) (hl : row.length ≤ 10000) (hB : B ≤ w.heap.size) :
    Calls Try.prog 12 #[pv p, vU x] w fun e w' => HDropP B w p mt mp At row v x e w' := by
  obtain ⟨c0, -⟩ := lk3 h.tr.hd
  have hlk := h.tr.ti.look_ok Try.underlying44 (Try.zeroValue23 _) x
  have hhas := h.has x
  by_cases hx : x ∈ row
  · rw [hhas, show decide (x ∈ row) = true by simpa using hx] at hlk
    generalize (At x).getD 0 = t at *
    obtain ⟨i, hi, hxi⟩ := List.mem_iff_getElem.1 hx
    have HX := hid hx
    have H := hid h
    clear h hhas hx
    go_enter Try.func12, Try.ntmps12
    go_wp2_with fail
    refine (tdrop_any B w p mt mp row.length At row v i x H.out.tr hi hxi H.out.hp (by omega) H.out.bp H.out.bm hB).mono ?_
    rintro e w1 ⟨⟨u, rfl⟩, row', v', hpm, hT1, hH1, hE1, hN1⟩
    have hlen : row.length = row'.length + 1 := by rw [← hpm.length_eq]; simp
    obtain ⟨d0, -⟩ := lk3 hT1.hd
    have hsm : (At x).isSome = true := by rw [H.out.has x]; simpa using HX.out
    rw [hlen] at hT1
    obtain ⟨w2, r1, r2, r3⟩ := hT1.ti.del Try.underlying44 hsm 0
    have hT2 := HB.ti_tr hT1 r2 r3
    have hE2 : Below B w1 w2 := (fr_turned (S := [mt]) r3 (by simp)).below (by simpa using H.out.bt) (Nat.le_trans hB hE1.size)
    have hnd : x ∉ row' := by
      have := (hpm.nodup_iff.2 H.out.tr.nd)
      exact (List.nodup_cons.1 this).1
    have HH : Hid (HB B w2 p mt mp (delF At x) row' v') := hid (by
      refine ⟨hT2, fun y => ?_, ?_, H.out.bp, H.out.bt, H.out.bm⟩
      · unfold delF
        have hmem : y ∈ row ↔ y = x ∨ y ∈ row' := by rw [← hpm.mem_iff]; simp
        by_cases hy : y = x
        · subst hy; rw [if_pos rfl]; simp [hnd]
        · rw [if_neg hy, H.out.has y]; simp [hmem, hy]
      · have h1 : HP (rowK At row') row'.length := by rw [hlen] at hH1; simpa using hH1
        exact h1.congr (rowK_del hnd))
    have HE2 : Hid (Below B w w2) := hid (hE1.trans hE2)
    have HPM := hid hpm
    have HTN := hid (turn_last (q := mt) (by simp [Hb]) hN1 (fr_turned (S := [mt]) r3 (by simp)))
    clear hT1 hT2 r2 r3 hE1 hE2 hnd hpm hlen hH1 hsm hN1
    go_wp2
    go_ret
    exact ⟨fun hn => absurd HX.out hn, fun _ => ⟨rfl, row', v', HPM.out, HH.out, HE2.out, HTN.out⟩⟩
  · rw [hhas, show decide (x ∈ row) = false by simpa using hx] at hlk
    generalize (At x).getD 0 = t at *
    have HX := hid hx
    clear h hhas hx
    go_enter Try.func12, Try.ntmps12
    go_wp2
    go_ret
    exact ⟨fun _ => ⟨rfl, rfl⟩, fun hn => absurd hn HX.out⟩
def HMoveP (B : Nat) (w : World) (p mt mp : Nat) (At : UInt64 → Option Int) (row : List UInt64) (v : Value) (x : UInt64) (a : Int) (e : Ending) (w' : World) : Prop :=
  (x ∉ row → e = .returned (.bool false) ∧ w = w') ∧ (x ∈ row → e = .returned (.bool true) ∧ ∃ row' v', row'.Perm row ∧ HB B w' p mt mp (setF At x a) row' v' ∧ Below B w w' ∧ Turn w w' p mt mp v v')
set_option maxHeartbeats 1000000 in
theorem hmove_any (B : Nat) (w : World) (p mt mp : Nat) (At : UInt64 → Option Int) (row : List UInt64) (v : Value) (x a : UInt64) (h : HB B w p mt mp At row v) (hl : row.length ≤ 10000) (hB : B ≤ w.heap.size) :
    Calls Try.prog 14 #[pv p, vU x, vU a] w fun e w' => HMoveP B w p mt mp At row v x (a.toNat : Int) e w' := by
  obtain ⟨c0, -⟩ := lk3 h.tr.hd
  have hlk := h.tr.ti.look_ok Try.underlying44 (Try.zeroValue23 _) x
  have hhas := h.has x
  by_cases hx : x ∈ row
  · rw [hhas, show decide (x ∈ row) = true by simpa using hx] at hlk
    generalize (At x).getD 0 = t at *
    obtain ⟨i, hi, hxi⟩ := List.mem_iff_getElem.1 hx
    obtain ⟨w1, r1, r2, r3⟩ := h.tr.ti.store Try.underlying44 (by omega) x (a.toNat : Int)
    rw [hhas, show decide (x ∈ row) = true by simpa using hx] at r2
    have hT1 := HB.ti_tr h.tr r2 r3
    obtain ⟨ao, cap, rfl⟩ := h.tr.ow.shape
    obtain ⟨g, hg⟩ := h.tr.ow.addr (by omega)
    subst hg
    have hgb := h.tr.ow.block
    have HT1 := hid hT1
    have HE1 : Hid (Below B w w1) := hid ((fr_turned (S := [mt]) r3 (by simp)).below (by simpa using h.bt) hB)
    have HFT := hid (fr_turned (S := [mt]) r3 (by simp))
    have HA : Hid (AH (rowK (setF At x (a.toNat : Int)) row) row.length i) := hid (ah_but (h.hp.ah i hi) hi fun j hj hne => by
      rw [rowK_at hj, rowK_at hj, key_set fun e => hne ?_]
      have := idx_of h.tr.nd hj e
      have := idx_of h.tr.nd hi hxi
      omega)
    obtain ⟨d0, -⟩ := lk3 hT1.hd
    have HX := hid hx
    have H := hid h
    clear h hhas hx r2 r3 hT1
    go_enter Try.func14, Try.ntmps14
    go_wp2_with fail
    refine (settle_any B w1 p mt mp row.length (setF At x (a.toNat : Int)) row g row.length cap i x HT1.out hi hxi (by omega) HA.out).mono ?_
    rintro e w2 ⟨⟨u, rfl⟩, row', hpm, hT2, hH2, hF2⟩
    have hlen : row'.length = row.length := hpm.length_eq
    have HH : Hid (HB B w2 p mt mp (setF At x (a.toNat : Int)) row' (.slice (some ⟨g, 0, none⟩) row.length cap)) := hid (by
      refine ⟨by rw [hlen]; exact hT2, fun y => ?_, by rw [hlen]; exact hH2, H.out.bp, H.out.bt, H.out.bm⟩
      unfold setF
      have hmem : y ∈ row' ↔ y ∈ row := hpm.mem_iff
      by_cases hy : y = x
      · subst hy; rw [if_pos rfl]; simp [hmem, HX.out]
      · rw [if_neg hy, H.out.has y]; simp [hmem])
    have HE2 : Hid (Below B w w2) := hid (HE1.out.trans (hF2.below (by simp; exact ⟨hgb, H.out.bm⟩) (Nat.le_trans hB HE1.out.size)))
    have HPM := hid hpm
    have HTN := hid (turn_same (n2 := row.length) ((HFT.out.mono (by intro q hq; obtain rfl : q = mt := (by simpa using hq); simp [Hb])).trans (hF2.mono (sub_hb (p := p) (mt := mt) (n := row.length) (cap := cap)))))
    clear hT2 hH2 hF2 hlen hpm
    go_wp2
    go_ret
    exact ⟨fun hn => absurd HX.out hn, fun _ => ⟨rfl, row', _, HPM.out, HH.out, HE2.out, HTN.out⟩⟩
  · rw [hhas, show decide (x ∈ row) = false by simpa using hx] at hlk
    generalize (At x).getD 0 = t at *
    have HX := hid hx
    clear h hhas hx
    go_enter Try.func14, Try.ntmps14
    go_wp2
    go_ret
    exact ⟨fun _ => ⟨rfl, rfl⟩, fun hn => absurd hn HX.out⟩
/-- What comes first: the row's least by times, and ids. -/
def fst (At : UInt64 → Option Int) (row : List UInt64) : Value :=
  match row with
  | [] => .tuple #[.int .u64 0, .int .u64 0, .bool false]
  | x :: _ => .tuple #[vU x, .int .u64 (tim At x), .bool true]
theorem HB.least {B : Nat} {w : World} {p mt mp : Nat} {At : UInt64 → Option Int} {x : UInt64} {r : List UInt64} {v : Value} (h : HB B w p mt mp At (x :: r) v) : ∀ y ∈ x :: r, keyI At x ≤ keyI At y := by
  intro y hy
  obtain ⟨j, hj, e⟩ := List.mem_iff_getElem.1 hy
  have := h.hp.top j hj
  rw [rowK_at hj, e, rowK_at (by simp)] at this
  simpa using this
set_option maxHeartbeats 1000000 in
theorem hfirst_any (B : Nat) (w : World) (p mt mp : Nat) (At : UInt64 → Option Int) (row : List UInt64) (v : Value) (h : HB B w p mt mp At row v) :
    Calls Try.prog 16 #[pv p] w fun e w' => e = .returned (fst At row) ∧ Ext w w' := by
  obtain ⟨c0, c1, -⟩ := lk3 h.tr.hd
  have H := hid h
  cases row with
  | nil =>
    clear h
    go_enter Try.func16, Try.ntmps16
    go_wp2_with fail
    refine (hlen_any B w p mt mp At _ v H.out).mono ?_
    rintro e w1 ⟨rfl, rfl⟩
    rw [show ((([] : List UInt64).length : Nat) : Int) = 0 from rfl]
    go_wp2
    go_returns
    exact ⟨rfl, Ext.refl _⟩
  | cons x r =>
    obtain ⟨ao, cap, rfl⟩ := h.tr.ow.shape
    obtain ⟨g, hg⟩ := h.tr.ow.addr (by simp)
    subst hg
    have hc := h.tr.ow.cell 0 (by simp)
    simp only [List.getElem_cons_zero] at hc
    have hlk : ∀ j, (Instr.lookup 44 (.map (some mt)) (vU x) false).run Try.prog (w.drewN j) = .ok (.int .u64 (tim At x)) (w.drewN j) := fun j => (h.tr.ti.drewN j).look Try.underlying44 (Try.zeroValue23 _) x
    have hi1 : (((x :: r).length : Int) == 0) = false := by simp; omega
    have hi2 : 0 < (x :: r).length := by simp
    have hfs : fst At (x :: r) = .tuple #[vU x, .int .u64 (tim At x), .bool true] := rfl
    rw [hfs]
    generalize tim At x = t at *
    obtain ⟨n, hn⟩ : ∃ n, (x :: r).length = n := ⟨_, rfl⟩
    have HN := hid hn
    rw [hn] at c1 hi1 hi2
    clear h hn hfs
    go_enter Try.func16, Try.ntmps16
    go_wp2_with fail
    refine (hlen_any B w p mt mp At _ _ H.out).mono ?_
    rintro e w1 ⟨rfl, rfl⟩
    rw [HN.out]
    go_wp2_with fail
    go_quiet (fail)
    go_wp2
    go_returns
    exact ⟨rfl, Ext.drewN _ _⟩
end Go.Proofs.Ytkagacopgjcdnaa
