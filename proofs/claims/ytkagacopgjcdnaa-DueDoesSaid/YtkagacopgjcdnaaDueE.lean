/- Package due: the tree's put. -/
import Derived.Test.YtkagacopgjcdnaaDueD
import Derived.Maps.AppendAt
import Derived.RangeFuncBox
set_option linter.unusedSimpArgs false
set_option linter.unusedVariables false
namespace Go.Proofs.Ytkagacopgjcdnaa
open Go Go.RowKit Go.Tum Go.ChangeMaps Go.Tum.Hp
open Go.ParB (upd Lof)

theorem info64 : (Try.prog.info? 23).map (fun i => (i.zero, i.size, i.bytes)) = some (some (.int .u64 0), 1, 8) := by kernel_rfl
theorem box1 {w : World} {b : Nat} {v : Value} {ty : TypeId} (h : w.heap[b]? = some (.cells #[v] ty (0, 0))) : w.cell? ⟨b, 0, none⟩ = some v ∧ w.frozen? ⟨b, 0, none⟩ = false := by
  constructor <;> simp [World.cell?, World.frozen?, h]
/-- A row lies in no block that holds another thing. -/
theorem owv_ne {w : World} {b g n cap j : Nat} {l : List UInt64} {o : Obj} (h : OwV vU w b 23 (.slice (some ⟨g, 0, none⟩) n cap) l) (hj : w.heap[j]? = some o) (ho : ∀ cs, o ≠ .cells cs 23 (0, 0)) : j ≠ g := by
  rintro rfl
  rcases h.2 with ⟨e, _⟩ | ⟨g', cap', cur, hv, hb, hgg, _⟩
  · cases e
  · cases hv
    rw [hgg] at hj
    exact ho _ (Option.some.inj hj).symm
theorem owv_fr {S : List Nat} {w w' : World} {b : Nat} {v : Value} {l : List UInt64} (h : OwV vU w b 23 v l) (k : Fr S w w') (hs : ∀ x ∈ S, ∃ o, w.heap[x]? = some o ∧ ∀ cs, o ≠ .cells cs 23 (0, 0)) : OwV vU w' b 23 v l := by
  refine ⟨h.1, ?_⟩
  rcases h.2 with hn | ⟨g, cap, cur, hv, hb, hgg, rest⟩
  · exact .inl hn
  · refine .inr ⟨g, cap, cur, hv, hb, ?_, rest⟩
    rw [k.block g (Array.getElem?_eq_some_iff.1 hgg).1 fun hm => ?_]
    · exact hgg
    · obtain ⟨o, h1, h2⟩ := hs g hm
      rw [hgg] at h1
      exact h2 _ (Option.some.inj h1).symm
theorem grown_obj {w w' : World} {b j : Nat} {v : Value} {l : List UInt64} {o : Obj} (h : OwV vU w b 23 v l) (hj : w.heap[j]? = some o) (ho : ∀ cs, o ≠ .cells cs 23 (0, 0)) (k : w.grownBy w' v.ownBlock) : w'.heap[j]? = some o := by
  refine (k.block j (Array.getElem?_eq_some_iff.1 hj).1 fun e => ?_).trans hj
  rcases h.2 with ⟨rfl, _⟩ | ⟨g, cap, cur, rfl, hb, hgg, _⟩
  · simp [Value.ownBlock] at e
  · simp [Value.ownBlock] at e
    subst e
    rw [hgg] at hj
    exact ho _ (Option.some.inj hj).symm
theorem heapO_ne {mt mp : Nat} {v : Value} (cs : Array Value) : heapO mt mp v ≠ .cells cs 23 (0, 0) := by simp
theorem map_ne {es : Array MapEntry} {c : Nat} (cs : Array Value) : Obj.map es c ≠ .cells cs 23 (0, 0) := by simp

/-- Inside a region that turns one map, by its last operation. -/
structure OnM (w0 : World) (mp k : Nat) (Q : World → Prop) (L : Nat → Bool) (w : World) : Prop where
  fr : Fr [mp] w0 w
  s0 : L k = false → w.heap[mp]? = w0.heap[mp]?
  s1 : L k = true → Q w
theorem OnM.other {w0 w : World} {mp k : Nat} {Q : World → Prop} {L : Nat → Bool} (h : OnM w0 mp k Q L w) {o : Nat} (ho : k ≠ o) : OnM w0 mp k Q (upd L o) w :=
  ⟨h.fr, by rw [upd_ne ho]; exact h.s0, by rw [upd_ne ho]; exact h.s1⟩
theorem OnM.start {w0 : World} {mp k : Nat} {Q : World → Prop} : OnM w0 mp k Q (fun _ => false) { w0 with drawn := w0.drawn + 1 } :=
  ⟨Ext.fr (Ext.draw w0), fun _ => rfl, fun e => by simp at e⟩
theorem OnM.done {w0 w w' : World} {mp k : Nat} {Q : World → Prop} {L : Nat → Bool} (h : OnM w0 mp k Q L w) (f : Fr [mp] w w') (q : Q w') : OnM w0 mp k Q (upd L k) w' :=
  ⟨h.fr.trans f, fun e => (by rw [upd_eq] at e; cases e), fun _ => q⟩

theorem plF_snoc {row : List UInt64} {x : UInt64} (hx : x ∉ row) (y : UInt64) : setF (plF row) x (row.length : Int) y = plF (row ++ [x]) y := by
  unfold setF plF
  by_cases h : y = x
  · subst h
    rw [if_pos rfl, if_pos (by simp), List.idxOf_append, if_neg hx]
    simp
  · rw [if_neg h]
    by_cases hy : y ∈ row
    · rw [if_pos hy, if_pos (by simp [hy]), List.idxOf_append, if_pos hy]
    · rw [if_neg hy, if_neg (by simp [hy, h])]
theorem rowK_snoc {At : UInt64 → Option Int} {row : List UInt64} {x : UInt64} (j : Nat) (h : j < row.length) : rowK At row j = rowK At (row ++ [x]) j := by
  rw [rowK_at h, rowK_at (by simp; omega), List.getElem_append_left h]
theorem ah_snoc {At : UInt64 → Option Int} {row : List UInt64} {x : UInt64} (h : HP (rowK At row) row.length) : AH (rowK At (row ++ [x])) (row.length + 1) row.length := by
  refine ⟨fun j j0 jn ji jp => ?_, fun j j0 jn jp _ => ?_⟩
  · have := par_lt j0
    rw [← rowK_snoc j (by omega), ← rowK_snoc (par j) (by omega)]
    exact h j j0 (by omega)
  · have := par_lt j0
    omega

/-- The blocks of a heap. -/
def Hb (p mt mp : Nat) (v : Value) : List Nat := p :: mt :: mp :: v.ownBlock.toList
/-- Nothing else has turned; the blocks are those that it had, or new. -/
def Turn (w w' : World) (p mt mp : Nat) (v v' : Value) : Prop := Fr (Hb p mt mp v) w w' ∧ ∀ q ∈ Hb p mt mp v', q ∈ Hb p mt mp v ∨ w.heap.size ≤ q
theorem Fr.then {S T : List Nat} {a b c : World} (h : Fr T a b) (k : Fr S b c) (hs : ∀ x ∈ S, x ∈ T ∨ a.heap.size ≤ x) : Fr T a c :=
  ⟨k.os.trans h.os, k.tape.trans h.tape, k.output.trans h.output, Nat.le_trans h.size k.size, fun j hj hn => (k.block j (Nat.lt_of_lt_of_le hj h.size) fun hm => by
    rcases hs j hm with h1 | h1
    · exact hn h1
    · omega).trans (h.block j hj hn)⟩
theorem below_grown {w w' : World} {b : Nat} {v : Value} {l : List UInt64} (h : OwV vU w b 23 v l) (hb : b ≤ w.heap.size) (k : w.grownBy w' v.ownBlock) : Below b w w' := by
  refine (Below.refl b w).grown k hb fun j ej => ?_
  rcases h.2 with ⟨rfl, _⟩ | ⟨g, cap, cur, rfl, hb, _, _⟩
  · simp [Value.ownBlock] at ej
  · obtain rfl : g = j := by simpa [Value.ownBlock] using ej
    exact hb
theorem fr_grown {w w' : World} {b : Nat} {v : Value} (k : w.grownBy w' v.ownBlock) (e : Below b w w') : Fr v.ownBlock.toList w w' :=
  ⟨e.os, e.tape, e.output, e.size, fun j hj hn => k.block j hj fun h => hn (by rw [← h]; simp)⟩

def TPutP (b : Nat) (w : World) (p mt mp nt : Nat) (At : UInt64 → Option Int) (row : List UInt64) (v : Value) (x : UInt64) (e : Ending) (w' : World) : Prop :=
  (∃ u, e = .returned u) ∧ ∃ row' v', row'.Perm (row ++ [x]) ∧ Tr b w' p mt mp nt At row' v' ∧ HP (rowK At row') (row.length + 1) ∧ Below b w w' ∧ Turn w w' p mt mp v v'
set_option maxRecDepth 100000 in
set_option maxHeartbeats 1000000 in
theorem tput_any (b : Nat) (w : World) (p mt mp nt : Nat) (At : UInt64 → Option Int) (row : List UInt64) (v : Value) (x : UInt64) (h : Tr b w p mt mp nt At row v) (hx : x ∉ row) (hp : HP (rowK At row) row.length) (hl : row.length ≤ 100000)
    (hb1 : b ≤ p) (hb2 : b ≤ mp) (hbw : b ≤ w.heap.size) :
    Calls Try.prog 21 #[.pointer (some ⟨p, 1, none⟩), vU x, FV p] w fun e w' => TPutP b w p mt mp nt At row v x e w' := by
  obtain ⟨i0, hi, hz0, hz1, hz2⟩ := info_parts info64
  obtain ⟨ao, cap, rfl⟩ := h.ow.shape
  obtain ⟨-, a1, a2, -⟩ := lk3 h.hd
  have HC1 := hid a1
  have HC2 := hid a2
  have HT := hid h
  obtain ⟨es0, ck0, hmb⟩ := h.pl.block
  have HMB := hid hmb
  have hpm : p ≠ mp := by
    rintro rfl; have := h.hd; rw [hmb] at this; cases this
  have HPL := hid (Array.getElem?_eq_some_iff.1 h.hd).1
  have HX := hid hx
  have HP0 := hid hp
  clear h a1 a2 hmb hx hp
  go_enter Try.func21, Try.ntmps21
  go_wp2_with fail
  refine ParC.wp_region_c (l := [_, _, _, _, _, _, _, _, _, _, _]) rfl (OnM w mp 10 (fun u => MI .i64 u mp (row.length + 1) (setF (plF row) x (row.length : Int)))) (ParC.VC [ParC.EQ (Value.pointer (some ⟨p, 1, none⟩)), ParC.EQ (Value.pointer (some ⟨p, 1, none⟩)), ParC.EQ (Value.pointer (some ⟨p, 2, none⟩)), ParC.EQ (Value.map (some mp)), ParC.EQ (vU x), ParC.EQ (Value.pointer (some ⟨p, 1, none⟩)), ParC.EQ (Value.pointer (some ⟨p, 1, none⟩)), ParC.EQ (Value.pointer (some ⟨p, 1, none⟩)), ParC.EQ (Value.slice ao row.length cap), ParC.EQ (Value.int IntKind.i64 (row.length : Nat)), fun _ => True]) (by kernel_rfl) (by kernel_rfl) (OnM.start) ?_ ?_
  · refine ⟨fun L ρ w' hR hL hd hk => ?_, ?_⟩
    · exact Par.val_of_run rfl ⟨hR.other (by decide), hk.1⟩
    refine ⟨fun L ρ w' hR hL hd hk => ?_, ?_⟩
    · obtain ⟨k0, -⟩ := hk
      have e0 : ρ (.tmp 6) = Value.pointer (some ⟨p, 1, none⟩) := k0
      clear k0
      refine Par.val_k fun K hK => ?_
      unfold Par.val
      (go_simp; exact hK _ _ ⟨hR.other (by decide), rfl⟩)
    refine ⟨fun L ρ w' hR hL hd hk => ?_, ?_⟩
    · obtain ⟨k0, -⟩ := hk
      have e0 : ρ (.tmp 7) = Value.pointer (some ⟨p, 1, none⟩) := k0
      clear k0
      refine Par.val_k fun K hK => ?_
      unfold Par.val
      (go_simp; exact hK _ _ ⟨hR.other (by decide), rfl⟩)
    refine ⟨fun L ρ w' hR hL hd hk => ?_, ?_⟩
    · obtain ⟨k0, -⟩ := hk
      have e0 : ρ (.tmp 8) = Value.pointer (some ⟨p, 2, none⟩) := k0
      clear k0
      refine Par.val_k fun K hK => ?_
      unfold Par.val
      (have c := (hR.fr.cell (by simpa using hpm) HPL.out).trans HC2.out; go_simp; exact hK _ _ ⟨hR.other (by decide), rfl⟩)
    refine ⟨fun L ρ w' hR hL hd hk => ?_, ?_⟩
    · exact Par.val_of_run rfl ⟨hR.other (by decide), hk.1⟩
    refine ⟨fun L ρ w' hR hL hd hk => ?_, ?_⟩
    · exact Par.val_of_run rfl ⟨hR.other (by decide), hk.1⟩
    refine ⟨fun L ρ w' hR hL hd hk => ?_, ?_⟩
    · obtain ⟨k0, -⟩ := hk
      have e0 : ρ (.tmp 11) = Value.pointer (some ⟨p, 1, none⟩) := k0
      clear k0
      refine Par.val_k fun K hK => ?_
      unfold Par.val
      (go_simp; exact hK _ _ ⟨hR.other (by decide), rfl⟩)
    refine ⟨fun L ρ w' hR hL hd hk => ?_, ?_⟩
    · obtain ⟨k0, -⟩ := hk
      have e0 : ρ (.tmp 12) = Value.pointer (some ⟨p, 1, none⟩) := k0
      clear k0
      refine Par.val_k fun K hK => ?_
      unfold Par.val
      (go_simp; exact hK _ _ ⟨hR.other (by decide), rfl⟩)
    refine ⟨fun L ρ w' hR hL hd hk => ?_, ?_⟩
    · obtain ⟨k0, -⟩ := hk
      have e0 : ρ (.tmp 13) = Value.pointer (some ⟨p, 1, none⟩) := k0
      clear k0
      refine Par.val_k fun K hK => ?_
      unfold Par.val
      (have c := (hR.fr.cell (by simpa using hpm) HPL.out).trans HC1.out; go_simp; exact hK _ _ ⟨hR.other (by decide), rfl⟩)
    refine ⟨fun L ρ w' hR hL hd hk => ?_, ?_⟩
    · obtain ⟨k0, -⟩ := hk
      have e0 : ρ (.tmp 14) = Value.slice ao row.length cap := k0
      clear k0
      refine Par.val_k fun K hK => ?_
      unfold Par.val
      (go_simp; exact hK _ _ ⟨hR.other (by decide), rfl⟩)
    refine ⟨fun L ρ w' hR hL hd hk => ?_, ?_⟩
    · obtain ⟨k0, k1, k2, -⟩ := hk
      have e0 : ρ (.tmp 9) = Value.map (some mp) := k0
      have e1 : ρ (.tmp 10) = vU x := k1
      have e2 : ρ (.tmp 15) = Value.int IntKind.i64 (row.length : Nat) := k2
      clear k0 k1 k2
      refine Par.val_k fun K hK => ?_
      unfold Par.val
      (obtain ⟨u, r1, r2, r3⟩ := (HT.out.pl.fr0 (hR.s0 hL)).store Try.underlying45 (by omega) x (row.length : Int); have hnx : (plF row x).isSome = false := (by unfold plF; rw [if_neg HX.out]; rfl); rw [hnx] at r2; go_simp; exact hK _ _ ⟨hR.done (fr_turned r3 (by simp)) r2, trivial⟩)
    trivial
  intro a' w' inv hR
  have q6 : a'.tmps.getD 6 undef = Value.pointer (some ⟨p, 1, none⟩) := inv.done 0 _ 6 rfl rfl rfl
  have q7 : a'.tmps.getD 7 undef = Value.pointer (some ⟨p, 1, none⟩) := inv.done 1 _ 7 rfl rfl rfl
  have q8 : a'.tmps.getD 8 undef = Value.pointer (some ⟨p, 2, none⟩) := inv.done 2 _ 8 rfl rfl rfl
  have q9 : a'.tmps.getD 9 undef = Value.map (some mp) := inv.done 3 _ 9 rfl rfl rfl
  have q10 : a'.tmps.getD 10 undef = vU x := inv.done 4 _ 10 rfl rfl rfl
  have q11 : a'.tmps.getD 11 undef = Value.pointer (some ⟨p, 1, none⟩) := inv.done 5 _ 11 rfl rfl rfl
  have q12 : a'.tmps.getD 12 undef = Value.pointer (some ⟨p, 1, none⟩) := inv.done 6 _ 12 rfl rfl rfl
  have q13 : a'.tmps.getD 13 undef = Value.pointer (some ⟨p, 1, none⟩) := inv.done 7 _ 13 rfl rfl rfl
  have q14 : a'.tmps.getD 14 undef = Value.slice ao row.length cap := inv.done 8 _ 14 rfl rfl rfl
  have q15 : a'.tmps.getD 15 undef = Value.int IntKind.i64 (row.length : Nat) := inv.done 9 _ 15 rfl rfl rfl
  clear inv
  simp only [List.filterMap_cons, List.filterMap_nil, Par.putAll, Act.put, List.setIfInBounds_toArray, List.set_cons_succ, List.set_cons_zero, q6, q7, q8, q9, q10, q11, q12, q13, q14, q15]
  clear q6 q7 q8 q9 q10 q11 q12 q13 q14 q15
  clear a'
  obtain ⟨W1, hW⟩ : ∃ W1, W1 = w' := ⟨_, rfl⟩
  subst hW
  have HF1 := hid hR.fr
  have HM1 := hid (hR.s1 rfl)
  have HO1 := hid (owv_fr HT.out.ow HF1.out (by
    intro q hq
    obtain rfl : q = mp := by simpa using hq
    exact ⟨_, HMB.out, map_ne⟩))
  have hp1 := (HF1.out.block p HPL.out (by simpa using hpm)).trans HT.out.hd
  have ht1 := HT.out.ti.fr HF1.out (by simpa using HT.out.ne)
  have HP1 := hid hp1
  have HT1 := hid ht1
  have c1 := (lk3 hp1).2.1
  have hsz := HF1.out.size
  have HE1 : Hid (Below b w W1) := hid (HF1.out.below (by simpa using hb2) hbw)
  clear hR hp1 ht1
  have c2 : ∀ o : Obj, (W1.alloc o).cell? ⟨p, 1, none⟩ = some (.slice ao row.length cap) := fun o => (Ext.alloc W1 o).cell c1
  go_wp2_with (at_builtin; refine wpList_append_own_at _ rfl (.tmp 20) (.tmp 22) 46 rfl b 23 i0 (.int .u64 0) 1 8 Try.underlying46 hi hz0 hz1 hz2 rfl (by decide) (.slice ao row.length cap) row.length (row.map vU) rfl (HO1.out.ext (Ext.alloc _ _)) ⟨W1.heap.size, 0, none⟩ 1 1 [vU x] rfl rfl (cell_one_new _ _ _) (by simp [Value.oneCell']) (by simp [maxLen]; omega) (by omega) (by simp; omega) ?_; intro v3 w3 hO3 hg3 _ hat3; obtain ⟨g, cap3, rfl⟩ := Go.ownsRow_succ hO3; have hp3 := grown_obj (HO1.out.ext (Ext.alloc _ _)) ((Ext.alloc W1 (.cells #[vU x] 23)).obj HP1.out) heapO_ne hg3; have HP3 := hid hp3; have HO3 : Hid (OwV vU w3 b 23 (.slice (some ⟨g, 0, none⟩) (row.length + 1) cap3) (row ++ [x])) := hid (by unfold OwV; simpa using hO3); have HG3 := hid hg3; have HB3 := hid (below_grown (HO1.out.ext (Ext.alloc _ _)) (by simp; omega) hg3); have HAT := hid hat3; have c3 := (lk3 hp3).2.1; have f3 := (lk3 hp3).2.2.2.2.1; clear hp3 hO3 hg3 hat3)
  have hpg := owv_ne HO3.out HP3.out heapO_ne
  have hp4 : (w3.setCell ⟨p, 1, none⟩ (.slice (some ⟨g, 0, none⟩) (row.length + 1) cap3)).heap[p]? = some (heapO mt mp (.slice (some ⟨g, 0, none⟩) (row.length + 1) cap3)) := by
    simpa using Go.Joins.block_setCell (i := 1) HP3.out (.slice (some ⟨g, 0, none⟩) (row.length + 1) cap3)
  have hO4 := HO3.out.setOther ⟨p, 1, none⟩ (.slice (some ⟨g, 0, none⟩) (row.length + 1) cap3) hpg
  obtain ⟨es1, ck1, htb⟩ := HT1.out.block
  obtain ⟨es2, ck2, hmb1⟩ := HM1.out.block
  have hA1 := Ext.alloc W1 (.cells #[vU x] 23)
  have ht3 : w3.heap[mt]? = W1.heap[mt]? := (grown_obj (HO1.out.ext hA1) (hA1.obj htb) map_ne HG3.out).trans htb.symm
  have hm3 : w3.heap[mp]? = W1.heap[mp]? := (grown_obj (HO1.out.ext hA1) (hA1.obj hmb1) map_ne HG3.out).trans hmb1.symm
  have hpt : p ≠ mt := by
    rintro rfl; rw [HP1.out] at htb; cases htb
  have hT4 : Tr b (w3.setCell ⟨p, 1, none⟩ (.slice (some ⟨g, 0, none⟩) (row.length + 1) cap3)) p mt mp nt At (row ++ [x]) (.slice (some ⟨g, 0, none⟩) (row.length + 1) cap3) := by
    refine ⟨hp4, HT1.out.fr0 ((heap_setCell_other _ _ _ _ (Ne.symm hpt)).trans ht3), ?_, by simpa using hO4, ?_, HT.out.ne⟩
    · have := (HM1.out.fr0 ((heap_setCell_other _ _ _ _ (Ne.symm hpm)).trans hm3) : MI .i64 (w3.setCell ⟨p, 1, none⟩ (.slice (some ⟨g, 0, none⟩) (row.length + 1) cap3)) mp (row.length + 1) _)
      rw [List.length_append]
      exact this.congr fun y => plF_snoc HX.out y
    · rw [List.nodup_append]
      exact ⟨HT.out.nd, by simp, fun a ha c hc e => HX.out (by simp at hc; rw [← hc, ← e]; exact ha)⟩
  have HE4 : Hid (Below b w (w3.setCell ⟨p, 1, none⟩ (.slice (some ⟨g, 0, none⟩) (row.length + 1) cap3))) := hid (((HE1.out.trans (Below.mono hA1 (by omega))).trans HB3.out).setCell (by dsimp only; omega) _)
  have hgb := HO3.out.block
  have HFA : Hid (Fr (Hb p mt mp (.slice ao row.length cap)) w (w3.setCell ⟨p, 1, none⟩ (.slice (some ⟨g, 0, none⟩) (row.length + 1) cap3))) := hid (by
    refine Fr.trans (Fr.trans (Fr.trans (HF1.out.mono ?_) (Ext.fr (Ext.alloc W1 (.cells #[vU x] 23)))) ((fr_grown HG3.out HB3.out).mono ?_)) (fr_setCell _ _ _ (by simp [Hb]))
    · intro q hq
      obtain rfl : q = mp := by simpa using hq
      simp [Hb]
    · intro q hq
      unfold Hb
      simp only [List.mem_cons]
      exact .inr (.inr (.inr hq)))
  have HGN : Hid (g ∈ Hb p mt mp (.slice ao row.length cap) ∨ w.heap.size ≤ g) := hid (by
    rcases HAT.out with h | h
    · left
      unfold Hb
      rw [← h]
      simp [Value.ownBlock]
    · right
      simp [Value.ownBlock] at h
      omega)
  have hle4 := HE4.out.size
  generalize w3.setCell ⟨p, 1, none⟩ (.slice (some ⟨g, 0, none⟩) (row.length + 1) cap3) = W4 at *
  refine (settle_any b W4 p mt mp nt At (row ++ [x]) g (row.length + 1) cap3 row.length x hT4 (by simp) (by simp) (by simp; omega) (ah_snoc HP0.out)).mono ?_
  rintro e w5 ⟨⟨u, rfl⟩, row', hpm', hT5, hH5, hF5⟩
  have HT5 := hid hT5
  have HH5 := hid hH5
  have HE5 : Hid (Below b w w5) := hid (HE4.out.trans (hF5.below (by simp; omega) (by omega)))
  have HTN : Hid (Turn w w5 p mt mp (.slice ao row.length cap) (.slice (some ⟨g, 0, none⟩) (row.length + 1) cap3)) := hid (by
    refine ⟨HFA.out.then hF5 ?_, ?_⟩
    · intro q hq
      simp at hq
      rcases hq with rfl | rfl
      · exact HGN.out
      · exact .inl (by simp [Hb])
    · intro q hq
      simp [Hb, Value.ownBlock] at hq
      rcases hq with rfl | rfl | rfl | rfl
      · exact .inl (by simp [Hb])
      · exact .inl (by simp [Hb])
      · exact .inl (by simp [Hb])
      · exact HGN.out)
  clear hT5 hH5 hF5
  go_wp2
  go_returns
  exact ⟨⟨_, rfl⟩, row', _, hpm', HT5.out, HH5.out, HE5.out, HTN.out⟩
end Go.Proofs.Ytkagacopgjcdnaa
