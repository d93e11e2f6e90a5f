/- The laws' 'awake'. -/
import Derived.Test.YtkaafllbmeppnaaDskLg
import Derived.Test.YtkaafllbmeppnaaDskSm
import Derived.Test.YtkaafllbmeppnaaSame
import Derived.Deep.OwnRows
set_option linter.unusedSimpArgs false
set_option linter.unusedVariables false
namespace Go.Proofs.Ytkaafllbmeppnaa
open Go Go.RowKit Go.Tum Go.ChangeMaps

theorem DoR.as {B : Nat} {w : World} {p : Nat} {x : DX} {r : Nat × PS} {e : Ending} {w' : World} (h : DoR B w p x r e w') {s : PS} (n : Nat) (h1 : r = (n, s)) : e = .returned (.int .i64 (n : Int)) ∧ Stp B w p x s w' := by
  subst h1; exact h
abbrev S1 : PS := ⟨16, [([], 0)], [], [⟨[], [97], some 0⟩], -1, false⟩
abbrev S2 : PS := ⟨16, [([], 0)], [([97], 0)], [], -1, false⟩
abbrev S3 : PS := ⟨16, [([], 0), ([], 0)], [([97], 0)], [⟨[], [98], some 1⟩], -1, false⟩
abbrev S4 : PS := ⟨16, [([1, 2, 3], 0), ([], 0)], [([97], 0)], [⟨[], [98], some 1⟩], -1, false⟩
abbrev S5 : PS := ⟨16, [([1, 2, 3], 3), ([], 0)], [([97], 0)], [⟨[], [98], some 1⟩], -1, false⟩
abbrev S6 : PS := ⟨16, [([1, 2, 3, 4, 5], 3), ([], 0)], [([97], 0)], [⟨[], [98], some 1⟩], -1, false⟩
abbrev S8 : PS := ⟨16, [([1, 2, 3, 4], 4), ([], 0)], [([97], 0)], [], -1, false⟩
theorem q1 : creP (newP 16) [97] = (0, S1) := by kernel_rfl
theorem q2 : dsyP S1 = (0, S2) := by kernel_rfl
theorem q3 : creP S2 [98] = (0, S3) := by kernel_rfl
theorem q4 : appP S3 [97] [1, 2, 3] = (0, S4) := by kernel_rfl
theorem q5 : synP S4 [97] = (0, S5) := by kernel_rfl
theorem q6 : appP S5 [97] [4, 5] = (0, S6) := by kernel_rfl
theorem q7 : appP S6 [98] (List.replicate 12 0) = (4, S6) := by kernel_rfl
theorem q8 : crP S6 0 [1] = S8 := by kernel_rfl
theorem W1 : WF S1 := by have := (wf_new (room := 16) (by decide)).cre [97]; rw [q1] at this; exact this
theorem W2 : WF S2 := by have := W1.dsy; rw [q2] at this; exact this
theorem W3 : WF S3 := by have := W2.cre [98]; rw [q3] at this; exact this
theorem W4 : WF S4 := by have := W3.app [97] [1, 2, 3]; rw [q4] at this; exact this
theorem W5 : WF S5 := by have := W4.syn [97]; rw [q5] at this; exact this
theorem W6 : WF S6 := by have := W5.app [97] [4, 5]; rw [q6] at this; exact this
theorem W8 : WF S8 := by have := W6.cra 0 [1]; rw [q8] at this; exact this
theorem Dk.lt {B : Nat} {w : World} {p : Nat} {x : DX} {s : PS} (h : Dk B w p x s) : ∀ q ∈ x.blk p, q < w.heap.size := by
  intro q hq
  have hb : ∀ {b e n s : Nat} {v : Value} {xs : List Value}, w.ownsRow b e s v n xs → ∀ q ∈ oB v, q < w.heap.size := by
    intro b e n s v xs ho q hq
    rcases ho.2 with ⟨hv, -⟩ | ⟨g, cap, cur, hv, hb, hg, -⟩
    · rw [hv] at hq; simp [oB, Value.ownBlock] at hq
    · rw [hv] at hq; simp [oB, Value.ownBlock] at hq; subst hq; exact (Array.getElem?_eq_some_iff.1 hg).1
  unfold DX.blk at hq
  simp only [List.mem_cons, List.mem_append, List.mem_flatMap, List.mem_map] at hq
  rcases hq with rfl | rfl | rfl | (hq | ⟨z, hz, rfl⟩) | ⟨z, hz, hq⟩
  · exact (Array.getElem?_eq_some_iff.1 h.hd).1
  · obtain ⟨es, ck, hb⟩ := h.dr.block; exact (Array.getElem?_eq_some_iff.1 hb).1
  · obtain ⟨es, ck, hb⟩ := h.sr.block; exact (Array.getElem?_eq_some_iff.1 hb).1
  · exact hb h.op q hq
  · obtain ⟨i, hi, rfl⟩ := List.mem_iff_getElem.1 hz
    have := (Array.getElem?_eq_some_iff.1 (h.fi i (by rw [← h.fn]; exact hi)).1).1
    simpa [DX.bk, List.getD_eq_getElem?_getD, hi] using this
  · obtain ⟨i, hi, rfl⟩ := List.mem_iff_getElem.1 hz
    have h2 := (h.fi i (by rw [← h.fn]; exact hi)).2
    have e : x.sv i = x.bl[i].2 := by simp [DX.sv, List.getD_eq_getElem?_getD, hi]
    rw [e] at h2
    exact hb h2 q hq
theorem ml1 (c : UInt8) : [c].length ≤ maxLen := by simp [maxLen]
theorem vec_lit1 (w : World) (e : Nat) (t : Int) : Vec Go.Tum.iv (w.alloc (.cells #[.int .i64 t] e (0, 0))) (.slice (some ⟨w.heap.size, 0, none⟩) [t].length 1) [t] := by
  refine ⟨rfl, some ⟨w.heap.size, 0, none⟩, 1, rfl, Nat.le_refl _, by simp [maxLen], (fun h => by cases h), fun a ha j u hu => ?_⟩
  cases ha
  match j, hu with
  | 0, hu => simp at hu; subst hu; exact (lk1 (heap_alloc_new w (.cells #[.int .i64 t] e (0, 0)))).1
theorem vec_lits1 (w : World) (e : Nat) (t : Nm) : Vec vN (w.alloc (.cells #[vN t] e (0, 0))) (.slice (some ⟨w.heap.size, 0, none⟩) 1 1) [t] := by
  refine ⟨rfl, some ⟨w.heap.size, 0, none⟩, 1, rfl, Nat.le_refl _, by simp [maxLen], (fun h => by cases h), fun a ha j u hu => ?_⟩
  cases ha
  match j, hu with
  | 0, hu => simp at hu; subst hu; exact (lk1 (heap_alloc_new w (.cells #[vN t] e (0, 0)))).1

set_option maxRecDepth 100000 in
set_option maxHeartbeats 2000000 in
theorem awake_any (w : World) : Calls Try.prog 8 #[] w fun e w' => e = .returned (.bool true) ∧ Ext w w' := by
  have hmk : ∀ w, (Instr.makeSlice 32 (.int .i64 12) (.int .i64 12)).run Try.prog w = .ok (.slice (some ⟨w.heap.size, 0, none⟩) 12 12) (w.alloc (.cells (madeCells #[.int .u8 0] 12) 5)) :=
    fun w => run_make_row' 32 5 (.int .u8 0) 1 Try.underlying32 infoU8 rfl .i64 .i64 12 (by omega) (by omega) w
  have hmz : Hid (madeCells #[Value.int .u8 0] 12 = ((List.replicate 12 (0 : UInt8)).map bv).toArray) := hid (by apply Array.toList_inj.1; rw [toList_madeCells_one]; simp [bv])
  go_enter Try.func8, Try.ntmps8
  go_wp2_with fail
  refine (dnew_any w w.heap.size (Nat.le_refl _) 16).mono ?_
  intro e w0 hn
  obtain ⟨p, x0, rfl, D, E, -⟩ := hn.2 (by decide) (by decide)
  have E0 := hid E
  have H0 : Hid (Dk w.heap.size w0 p x0 (newP 16)) := hid D
  clear hn D E
  go_wp2_with fail
  refine (dcreate_any [97] (ml1 _) H0.out E0.out.size (by rw [q1]; exact W1.gd) (by decide)).mono ?_
  intro e w1 hq
  obtain ⟨rfl, x1, D, F, L, g⟩ := hq.as 0 q1
  have E1 := hid (Ext.below E0.out L)
  have H1 := hid D
  clear hq D F L g H0 E0
  go_wp2_with fail
  refine (ddsync_any H1.out E1.out.size (by rw [q2]; exact W2.gd)).mono ?_
  intro e w2 hq
  obtain ⟨rfl, x2, D, F, L, g⟩ := hq.as 0 q2
  have E2 := hid (Ext.below E1.out L)
  have H2 := hid D
  clear hq D F L g H1 E1
  go_wp2_with fail
  refine (dcreate_any [98] (ml1 _) H2.out E2.out.size (by rw [q3]; exact W3.gd) (by decide)).mono ?_
  intro e w3 hq
  obtain ⟨rfl, x3, D, F, L, g⟩ := hq.as 0 q3
  have E3 := hid (Ext.below E2.out L)
  have H3 := hid D
  clear hq D F L g H2 E2
  go_wp2_with fail
  have E3' := hid (Ext.trans E3.out (Ext.alloc w3 (.cells #[.int .u8 1, .int .u8 2, .int .u8 3] 5 (0, 0))))
  have H3' := hid (H3.out.ext (Ext.alloc w3 (.cells #[.int .u8 1, .int .u8 2, .int .u8 3] 5 (0, 0))))
  clear E3 H3
  have E3 := E3'
  have H3 := H3'
  clear E3' H3'
  refine (dappend_any [97] [1, 2, 3] _ (ml1 _) (byt_lit w3 5 (0, 0) _ _ rfl 3 rfl (by simp [maxLen])) (by decide) H3.out E3.out.size (by rw [q4]; exact W4.gd)).mono ?_
  intro e w4 hq
  obtain ⟨rfl, x4, D, F, L, g⟩ := hq.as 0 q4
  have E4 := hid (Ext.below E3.out L)
  have H4 := hid D
  clear hq D F L g H3 E3
  go_wp2_with fail
  refine (dsync_any [97] (ml1 _) H4.out E4.out.size (by rw [q5]; exact W5.gd)).mono ?_
  intro e w5 hq
  obtain ⟨rfl, x5, D, F, L, g⟩ := hq.as 0 q5
  have E5 := hid (Ext.below E4.out L)
  have H5 := hid D
  clear hq D F L g H4 E4
  go_wp2_with fail
  have E5' := hid (Ext.trans E5.out (Ext.alloc w5 (.cells #[.int .u8 4, .int .u8 5] 5 (0, 0))))
  have H5' := hid (H5.out.ext (Ext.alloc w5 (.cells #[.int .u8 4, .int .u8 5] 5 (0, 0))))
  clear E5 H5
  have E5 := E5'
  have H5 := H5'
  clear E5' H5'
  refine (dappend_any [97] [4, 5] _ (ml1 _) (byt_lit w5 5 (0, 0) _ _ rfl 2 rfl (by simp [maxLen])) (by decide) H5.out E5.out.size (by rw [q6]; exact W6.gd)).mono ?_
  intro e w6 hq
  obtain ⟨rfl, x6, D, F, L, g⟩ := hq.as 0 q6
  have E6 := hid (Ext.below E5.out L)
  have H6 := hid D
  clear hq D F L g H5 E5
  go_wp2_with fail
  have E6' := hid (Ext.trans E6.out (Ext.alloc w6 (.cells (madeCells #[.int .u8 0] 12) 5 (0, 0))))
  have H6' := hid (H6.out.ext (Ext.alloc w6 (.cells (madeCells #[.int .u8 0] 12) 5 (0, 0))))
  clear E6 H6
  have E6 := E6'
  have H6 := H6'
  clear E6' H6'
  refine (dappend_any [98] (List.replicate 12 0) _ (ml1 _) (byt_lit w6 5 (0, 0) _ _ hmz.out 12 rfl (by simp [maxLen])) (by decide) H6.out E6.out.size (by rw [q7]; exact W6.gd)).mono ?_
  intro e w7 hq
  obtain ⟨rfl, x7, D, F, L, g⟩ := hq.as 4 q7
  have E7 := hid (Ext.below E6.out L)
  have H7 := hid D
  clear hq D F L g H6 E6
  go_wp2_with fail
  have HX := hid (show w7.heap.size ∉ x7.blk p from fun hm => Nat.lt_irrefl _ (H7.out.lt _ hm))
  have E7' := hid (Ext.trans E7.out (Ext.alloc w7 (.cells #[.int .i64 1] 3 (0, 0))))
  have H7' := hid (H7.out.ext (Ext.alloc w7 (.cells #[.int .i64 1] 3 (0, 0))))
  clear E7 H7
  have E7 := E7'
  have H7 := H7'
  clear E7' H7'
  refine (dcrash_any 0 [1] (some ⟨w7.heap.size, 0, none⟩) 1 H7.out E7.out.size (vec_lit1 w7 3 1) (fun a ha _ => by cases ha; exact HX.out) (by decide) (by rw [q8]; exact W8.gd)).mono ?_
  rintro e w8 ⟨⟨u8, rfl⟩, hs⟩
  rw [q8] at hs
  obtain ⟨x8, D, F, L, g⟩ := hs
  have E8 := hid (Ext.below E7.out L)
  have H8 := hid D
  clear D F L g H7 E7 HX
  go_wp2_with fail
  refine (dread_any [97] (ml1 _) H8.out).mono ?_
  rintro e w9 ⟨⟨v9, rfl, ho⟩, hE⟩
  have hB9 : rdB S8 [97] = [1, 2, 3, 4] := by kernel_rfl
  have hE9 : rdE S8 [97] = 0 := by kernel_rfl
  rw [hB9] at ho
  rw [hE9]
  obtain ⟨o9, c9, rfl, -⟩ := ho.byt.open
  have O9 := hid ho.byt
  have E9 := hid (E8.out.trans hE)
  have H9 := hid (H8.out.ext hE)
  clear ho hE H8 E8 hB9 hE9
  go_wp2_with fail
  refine (dread_any [98] (ml1 _) H9.out).mono ?_
  rintro e w10 ⟨⟨v10, rfl, ho⟩, hE⟩
  have hB9 : rdB S8 [98] = [] := by kernel_rfl
  have hE9 : rdE S8 [98] = 5 := by kernel_rfl
  rw [hB9] at ho
  rw [hE9]
  obtain ⟨o10, c10, rfl, -⟩ := ho.byt.open
  have O10 := hid (O9.out.ext hE)
  have E10 := hid (E9.out.trans hE)
  have H10 := hid (H9.out.ext hE)
  clear ho hE H9 E9 hB9 hE9 O9
  go_wp2_with fail
  have E10' := hid (Ext.trans E10.out (Ext.alloc w10 (.cells #[.int .u8 1, .int .u8 2, .int .u8 3, .int .u8 4] 5 (0, 0))))
  have H10' := hid (H10.out.ext (Ext.alloc w10 (.cells #[.int .u8 1, .int .u8 2, .int .u8 3, .int .u8 4] 5 (0, 0))))
  clear E10 H10
  have E10 := E10'
  have H10 := H10'
  clear E10' H10'
  refine (rsame_any _ _ [1, 2, 3, 4] [1, 2, 3, 4] _ (O10.out.ext (Ext.alloc w10 _)) (byt_lit w10 5 (0, 0) _ _ rfl 4 rfl (by simp [maxLen]))).mono ?_
  rintro e w11 ⟨rfl, hE⟩
  have E11 := hid (E10.out.trans hE)
  have H11 := hid (H10.out.ext hE)
  clear hE H10 E10 O10
  have hb : (([1, 2, 3, 4] : List UInt8) == [1, 2, 3, 4]) = true := by decide
  rw [hb]
  go_wp2_with fail
  refine (dNames_any H11.out).mono ?_
  rintro e w12 ⟨⟨v12, rfl, ho⟩, hE⟩
  have hnm : (PS.dir S8).map Prod.fst = [[97]] := by kernel_rfl
  rw [hnm] at ho
  obtain ⟨o12, c12, rfl, -⟩ := ho.vec.open
  have O12 := hid ho.vec
  have E12 := hid (E11.out.trans hE)
  have H12 := hid (H11.out.ext hE)
  clear hE H11 E11 hnm ho hb
  go_wp2_with fail
  have E12' := hid (Ext.trans E12.out (Ext.alloc w12 (.cells #[vN [97]] 9 (0, 0))))
  have H12' := hid (H12.out.ext (Ext.alloc w12 (.cells #[vN [97]] 9 (0, 0))))
  clear E12 H12
  have E12 := E12'
  have H12 := H12'
  clear E12' H12'
  refine (rsames_any _ _ [[97]] [[97]] _ (O12.out.ext (Ext.alloc w12 _)) (vec_lits1 w12 9 [97])).mono ?_
  rintro e w13 ⟨rfl, hE⟩
  have E13 := hid (E12.out.trans hE)
  have H13 := hid (H12.out.ext hE)
  clear hE H12 E12 O12
  have hb : (([[97]] : List Nm) == [[97]]) = true := by decide
  rw [hb]
  go_wp2_with fail
  refine (dheld_any H13.out).mono ?_
  rintro e w14 ⟨rfl, hE⟩
  have hh : held S8 = 4 := by kernel_rfl
  rw [hh]
  have E14 := hid (E13.out.trans hE)
  have H14 := hid (H13.out.ext hE)
  clear hE H13 E13 hh hb
  go_wp2_with fail
  refine (ddown_any H14.out).mono ?_
  rintro e w15 ⟨rfl, rfl⟩
  go_wp2
  go_ret
  exact ⟨rfl, E14.out⟩
end Go.Proofs.Ytkaafllbmeppnaa
