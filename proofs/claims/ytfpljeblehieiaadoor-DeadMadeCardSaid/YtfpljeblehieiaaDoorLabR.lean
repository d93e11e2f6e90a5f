/- The document's names. -/
import Derived.Test.YtfpljeblehieiaaDoorLabN
import Derived.Test.YtfpljeblehieiaaDoorLabA
import Derived.Test.YtfpljeblehieiaaDoorVec
import Derived.Lib.SmallJoins
set_option linter.unusedSimpArgs false
set_option linter.unusedVariables false
namespace Go.Proofs.YtfpljeblehieiaaDoor
open Go Go.RowKit Go.Tum Go.Tum.Rn

abbrev rn (r : Nat) : Value := .int .i32 (r : Int)
/-- '[]rune(s)'. -/
theorem run_runes (l : List UInt8) (hl : l.length ≤ 1048576) (w : World) :
    ∃ cap cur W, (convert 9 78 (.string (str l))).run Tryd.prog w = .ok (.slice (some ⟨w.heap.size, 0, none⟩) (runes l).length cap) W ∧ W.heap[w.heap.size]? = some (.cells cur 21 (0, 0)) ∧ cur.size = cap ∧
      (runes l).length ≤ cap ∧ cap ≤ 9223372036854775807 ∧ cur.toList.take (runes l).length = (runes l).map rn ∧ Ext w W ∧ w.heap.size < W.heap.size := by
  have hf : Conv.runesFrom (str l) (str l).size 0 #[] = ((runes l).map rn).toArray := by
    have := runesFrom_runes (str l) l (str_data l) (str l).size 0 #[] (by rw [str_size]; omega)
    rw [this]; simp
  have hn := runes_len l
  have hsz : (((runes l).map rn).toArray).size = (runes l).length := by simp
  have h := run_runes_of_string (P := Tryd.prog) w 9 78 21 (str l) Tryd.underlying9 Tryd.underlying78 Tryd.underlying21 (by rw [hf, hsz]; omega)
  rw [hf, hsz] at h
  have hge := grownCap_ge w (runes l).length 0 21
  refine ⟨_, _, _, h, heap_alloc_new w.drew _, ?_, hge, ?_, ?_, (Ext.drew w).trans (Ext.alloc _ _), ?_⟩
  · simp; omega
  · have := grownCap_le_maxLen w (runes l).length 0 21 (by simp [maxLen]; omega)
    simpa [maxLen] using this
  · simp
  · simp
theorem cells_of_block {W : World} {b T n : Nat} {cur : Array Value} {zs : List Nat} (h : W.heap[b]? = some (.cells cur T (0, 0))) (ht : cur.toList.take n = zs.map rn) (k : Nat) (hk : k < zs.length) : W.cell? ⟨b, k, none⟩ = some (rn zs[k]) ∧ W.frozen? ⟨b, k, none⟩ = false := by
  refine ⟨?_, by simp [World.frozen?, h]⟩
  rw [cell_of_row _ _ _ _ _ _ h]
  have h2 : (cur.toList.take n)[k]? = some (rn zs[k]) := by rw [ht]; simp [hk]
  rw [List.getElem?_take] at h2
  split at h2
  · simpa using h2
  · simp at h2
theorem take_set {cur : Array Value} {n k r : Nat} {zs : List Nat} (ht : cur.toList.take n = zs.map rn) (hk : k < n) : (cur.setIfInBounds k (.int .i32 (r : Int))).toList.take n = (zs.set k r).map rn := by
  rw [Array.toList_setIfInBounds, List.take_set, ht, List.map_set]
theorem zs_step {l : List Nat} {k : Nat} (f : Nat → Nat) (hk : k < l.length) : (l.take (k + 1)).map f ++ l.drop (k + 1) = ((l.take k).map f ++ l.drop k).set k (f l[k]) := by
  have hlen : ((l.take k).map f).length = k := by simp; omega
  have e : l.drop k = l[k] :: l.drop (k + 1) := List.drop_eq_getElem_cons hk
  rw [List.take_succ_eq_append_getElem hk, List.map_append, List.map_cons, List.map_nil, List.append_assoc, List.set_append_right _ _ (by omega), hlen, Nat.sub_self, e, List.set_cons_zero, List.singleton_append]
theorem zs_same {l : List Nat} {k R : Nat} {f : Nat → Nat} {hk : k < l.length} (h : l[k] = R) : ((l.take k).map f ++ l.drop k).set k R = (l.take k).map f ++ l.drop k := by
  have hlen : ((l.take k).map f).length = k := by simp; omega
  have e : l.drop k = l[k] :: l.drop (k + 1) := List.drop_eq_getElem_cons hk
  rw [List.set_append_right _ _ (by omega), hlen, Nat.sub_self, e, List.set_cons_zero, h]

set_option maxRecDepth 100000 in
set_option maxHeartbeats 1000000 in
theorem rright3_any (l : List UInt8) (w : World) (hl : l.length ≤ 1048576) :
    Calls Tryd.prog 23 #[.string (str l)] w fun e w' => e = .returned (.bool (rightL l)) ∧ Ext w w' := by
  obtain ⟨cap, cur, W, e1, hB, hcs, hc1, hc2, ht, hE, -⟩ := run_runes l hl w
  have hnl := runes_len l
  have HC := hid (fun k hk => (cells_of_block hB ht k hk).1)
  have HE := hid hE
  clear hB ht hE hcs
  obtain ⟨N, hN⟩ : ∃ N, (runes l).length = N := ⟨_, rfl⟩
  rw [hN] at e1 hc1 hnl
  have HN := hid hN
  clear hN
  go_enter Tryd.func23, Tryd.ntmps23
  go_wp2
  clear e1
  go_loop [4] (fun i => ∃ k : Nat, k ≤ N ∧ i = .int .i64 k ∧ Hid (((runes l).take k).all letterB = true)) (fun i => N - (intOf i).toNat)
  case atStart => exact ⟨0, by omega, rfl, hid (by simp)⟩
  case round =>
    obtain ⟨k, hk, rfl, HA⟩ := hrel
    by_cases hlt : k < N
    · have hc := HC.out k (by rw [HN.out]; exact hlt)
      obtain ⟨R, hR⟩ : ∃ R, (runes l)[k]'(by rw [HN.out]; exact hlt) = R := ⟨_, rfl⟩
      rw [hR] at hc
      have HR := hid hR
      clear hR
      have hI0 : (0 : Int) ≤ k := by omega
      have hI1 : (k : Int) < N := by omega
      have hcase : R < 48 ∨ (48 ≤ R ∧ R ≤ 57) ∨ (58 ≤ R ∧ R ≤ 96) ∨ (97 ≤ R ∧ R ≤ 122) ∨ (123 ≤ R ∧ R ≤ 944) ∨ (945 ≤ R ∧ R ≤ 969) ∨ 970 ≤ R := by omega
      rcases hcase with hcase | hcase | hcase | hcase | hcase | hcase | hcase
      · have d0 : decide ((97 : Int) ≤ R) = false := by first | (rw [decide_eq_true_eq]; omega) | (rw [decide_eq_false_iff_not]; omega)
        have d1 : decide ((R : Int) ≤ 122) = true := by first | (rw [decide_eq_true_eq]; omega) | (rw [decide_eq_false_iff_not]; omega)
        have d2 : decide ((48 : Int) ≤ R) = false := by first | (rw [decide_eq_true_eq]; omega) | (rw [decide_eq_false_iff_not]; omega)
        have d3 : decide ((R : Int) ≤ 57) = true := by first | (rw [decide_eq_true_eq]; omega) | (rw [decide_eq_false_iff_not]; omega)
        have d4 : decide ((945 : Int) ≤ R) = false := by first | (rw [decide_eq_true_eq]; omega) | (rw [decide_eq_false_iff_not]; omega)
        have d5 : decide ((R : Int) ≤ 969) = true := by first | (rw [decide_eq_true_eq]; omega) | (rw [decide_eq_false_iff_not]; omega)
        have HLB := hid (show letterB R = false by simp only [letterB]; simp; omega)
        clear hcase
        have HF := hid (show rightL l = false by
          unfold rightL
          have h2 : (runes l).all letterB = false := by
            rw [List.all_eq_false]
            exact ⟨R, by rw [← HR.out]; exact List.getElem_mem _, by rw [HLB.out]; simp⟩
          rw [h2]; simp)
        go_wp2
        go_ret
        exact ⟨by rw [HF.out]; rfl, HE.out⟩
      · have d0 : decide ((97 : Int) ≤ R) = false := by first | (rw [decide_eq_true_eq]; omega) | (rw [decide_eq_false_iff_not]; omega)
        have d1 : decide ((R : Int) ≤ 122) = true := by first | (rw [decide_eq_true_eq]; omega) | (rw [decide_eq_false_iff_not]; omega)
        have d2 : decide ((48 : Int) ≤ R) = true := by first | (rw [decide_eq_true_eq]; omega) | (rw [decide_eq_false_iff_not]; omega)
        have d3 : decide ((R : Int) ≤ 57) = true := by first | (rw [decide_eq_true_eq]; omega) | (rw [decide_eq_false_iff_not]; omega)
        have d4 : decide ((945 : Int) ≤ R) = false := by first | (rw [decide_eq_true_eq]; omega) | (rw [decide_eq_false_iff_not]; omega)
        have d5 : decide ((R : Int) ≤ 969) = true := by first | (rw [decide_eq_true_eq]; omega) | (rw [decide_eq_false_iff_not]; omega)
        have HLB := hid (show letterB R = true by simp only [letterB]; simp; omega)
        clear hcase
        go_wp2
        go_round
        case rel => exact ⟨k + 1, by omega, by go_num, hid (by
          rw [List.take_succ_eq_append_getElem (by rw [HN.out]; exact hlt), List.all_append, HA.out, List.all_cons, List.all_nil, HR.out, HLB.out]
          rfl)⟩
        case measure => simp [intOf]; omega
      · have d0 : decide ((97 : Int) ≤ R) = false := by first | (rw [decide_eq_true_eq]; omega) | (rw [decide_eq_false_iff_not]; omega)
        have d1 : decide ((R : Int) ≤ 122) = true := by first | (rw [decide_eq_true_eq]; omega) | (rw [decide_eq_false_iff_not]; omega)
        have d2 : decide ((48 : Int) ≤ R) = true := by first | (rw [decide_eq_true_eq]; omega) | (rw [decide_eq_false_iff_not]; omega)
        have d3 : decide ((R : Int) ≤ 57) = false := by first | (rw [decide_eq_true_eq]; omega) | (rw [decide_eq_false_iff_not]; omega)
        have d4 : decide ((945 : Int) ≤ R) = false := by first | (rw [decide_eq_true_eq]; omega) | (rw [decide_eq_false_iff_not]; omega)
        have d5 : decide ((R : Int) ≤ 969) = true := by first | (rw [decide_eq_true_eq]; omega) | (rw [decide_eq_false_iff_not]; omega)
        have HLB := hid (show letterB R = false by simp only [letterB]; simp; omega)
        clear hcase
        have HF := hid (show rightL l = false by
          unfold rightL
          have h2 : (runes l).all letterB = false := by
            rw [List.all_eq_false]
            exact ⟨R, by rw [← HR.out]; exact List.getElem_mem _, by rw [HLB.out]; simp⟩
          rw [h2]; simp)
        go_wp2
        go_ret
        exact ⟨by rw [HF.out]; rfl, HE.out⟩
      · have d0 : decide ((97 : Int) ≤ R) = true := by first | (rw [decide_eq_true_eq]; omega) | (rw [decide_eq_false_iff_not]; omega)
        have d1 : decide ((R : Int) ≤ 122) = true := by first | (rw [decide_eq_true_eq]; omega) | (rw [decide_eq_false_iff_not]; omega)
        have d2 : decide ((48 : Int) ≤ R) = true := by first | (rw [decide_eq_true_eq]; omega) | (rw [decide_eq_false_iff_not]; omega)
        have d3 : decide ((R : Int) ≤ 57) = false := by first | (rw [decide_eq_true_eq]; omega) | (rw [decide_eq_false_iff_not]; omega)
        have d4 : decide ((945 : Int) ≤ R) = false := by first | (rw [decide_eq_true_eq]; omega) | (rw [decide_eq_false_iff_not]; omega)
        have d5 : decide ((R : Int) ≤ 969) = true := by first | (rw [decide_eq_true_eq]; omega) | (rw [decide_eq_false_iff_not]; omega)
        have HLB := hid (show letterB R = true by simp only [letterB]; simp; omega)
        clear hcase
        go_wp2
        go_round
        case rel => exact ⟨k + 1, by omega, by go_num, hid (by
          rw [List.take_succ_eq_append_getElem (by rw [HN.out]; exact hlt), List.all_append, HA.out, List.all_cons, List.all_nil, HR.out, HLB.out]
          rfl)⟩
        case measure => simp [intOf]; omega
      · have d0 : decide ((97 : Int) ≤ R) = true := by first | (rw [decide_eq_true_eq]; omega) | (rw [decide_eq_false_iff_not]; omega)
        have d1 : decide ((R : Int) ≤ 122) = false := by first | (rw [decide_eq_true_eq]; omega) | (rw [decide_eq_false_iff_not]; omega)
        have d2 : decide ((48 : Int) ≤ R) = true := by first | (rw [decide_eq_true_eq]; omega) | (rw [decide_eq_false_iff_not]; omega)
        have d3 : decide ((R : Int) ≤ 57) = false := by first | (rw [decide_eq_true_eq]; omega) | (rw [decide_eq_false_iff_not]; omega)
        have d4 : decide ((945 : Int) ≤ R) = false := by first | (rw [decide_eq_true_eq]; omega) | (rw [decide_eq_false_iff_not]; omega)
        have d5 : decide ((R : Int) ≤ 969) = true := by first | (rw [decide_eq_true_eq]; omega) | (rw [decide_eq_false_iff_not]; omega)
        have HLB := hid (show letterB R = false by simp only [letterB]; simp; omega)
        clear hcase
        have HF := hid (show rightL l = false by
          unfold rightL
          have h2 : (runes l).all letterB = false := by
            rw [List.all_eq_false]
            exact ⟨R, by rw [← HR.out]; exact List.getElem_mem _, by rw [HLB.out]; simp⟩
          rw [h2]; simp)
        go_wp2
        go_ret
        exact ⟨by rw [HF.out]; rfl, HE.out⟩
      · have d0 : decide ((97 : Int) ≤ R) = true := by first | (rw [decide_eq_true_eq]; omega) | (rw [decide_eq_false_iff_not]; omega)
        have d1 : decide ((R : Int) ≤ 122) = false := by first | (rw [decide_eq_true_eq]; omega) | (rw [decide_eq_false_iff_not]; omega)
        have d2 : decide ((48 : Int) ≤ R) = true := by first | (rw [decide_eq_true_eq]; omega) | (rw [decide_eq_false_iff_not]; omega)
        have d3 : decide ((R : Int) ≤ 57) = false := by first | (rw [decide_eq_true_eq]; omega) | (rw [decide_eq_false_iff_not]; omega)
        have d4 : decide ((945 : Int) ≤ R) = true := by first | (rw [decide_eq_true_eq]; omega) | (rw [decide_eq_false_iff_not]; omega)
        have d5 : decide ((R : Int) ≤ 969) = true := by first | (rw [decide_eq_true_eq]; omega) | (rw [decide_eq_false_iff_not]; omega)
        have HLB := hid (show letterB R = true by simp only [letterB]; simp; omega)
        clear hcase
        go_wp2
        go_round
        case rel => exact ⟨k + 1, by omega, by go_num, hid (by
          rw [List.take_succ_eq_append_getElem (by rw [HN.out]; exact hlt), List.all_append, HA.out, List.all_cons, List.all_nil, HR.out, HLB.out]
          rfl)⟩
        case measure => simp [intOf]; omega
      · have d0 : decide ((97 : Int) ≤ R) = true := by first | (rw [decide_eq_true_eq]; omega) | (rw [decide_eq_false_iff_not]; omega)
        have d1 : decide ((R : Int) ≤ 122) = false := by first | (rw [decide_eq_true_eq]; omega) | (rw [decide_eq_false_iff_not]; omega)
        have d2 : decide ((48 : Int) ≤ R) = true := by first | (rw [decide_eq_true_eq]; omega) | (rw [decide_eq_false_iff_not]; omega)
        have d3 : decide ((R : Int) ≤ 57) = false := by first | (rw [decide_eq_true_eq]; omega) | (rw [decide_eq_false_iff_not]; omega)
        have d4 : decide ((945 : Int) ≤ R) = true := by first | (rw [decide_eq_true_eq]; omega) | (rw [decide_eq_false_iff_not]; omega)
        have d5 : decide ((R : Int) ≤ 969) = false := by first | (rw [decide_eq_true_eq]; omega) | (rw [decide_eq_false_iff_not]; omega)
        have HLB := hid (show letterB R = false by simp only [letterB]; simp; omega)
        clear hcase
        have HF := hid (show rightL l = false by
          unfold rightL
          have h2 : (runes l).all letterB = false := by
            rw [List.all_eq_false]
            exact ⟨R, by rw [← HR.out]; exact List.getElem_mem _, by rw [HLB.out]; simp⟩
          rw [h2]; simp)
        go_wp2
        go_ret
        exact ⟨by rw [HF.out]; rfl, HE.out⟩
    · obtain rfl : k = N := by omega
      have HF := hid (show rightL l = (decide (1 ≤ k) && decide (k ≤ 8)) by
        have h := HA.out
        rw [List.take_of_length_le (by rw [HN.out]; exact Nat.le_refl _)] at h
        unfold rightL
        rw [h, HN.out, Bool.and_true]
        rfl)
      by_cases h1 : 1 ≤ k
      · have d1 : decide ((1 : Int) ≤ k) = true := by simp; omega
        by_cases h8 : k ≤ 8
        · have d2 : decide ((k : Int) ≤ 8) = true := by simp; omega
          go_wp2
          go_ret
          exact ⟨by rw [HF.out]; simp [h1, h8], HE.out⟩
        · have d2 : decide ((k : Int) ≤ 8) = false := by simp; omega
          go_wp2
          go_ret
          exact ⟨by rw [HF.out]; simp [h8], HE.out⟩
      · have d1 : decide ((1 : Int) ≤ k) = false := by simp; omega
        go_wp2
        go_ret
        exact ⟨by rw [HF.out]; simp [h1], HE.out⟩

set_option maxRecDepth 100000 in
set_option maxHeartbeats 1000000 in
theorem rfold3_any (l : List UInt8) (w : World) (hl : l.length ≤ 1048576) :
    Calls Tryd.prog 24 #[.string (str l)] w fun e w' => e = .returned (.string (str (foldL l))) ∧ Ext w w' := by
  obtain ⟨cap, cur0, W, e1, hB, hcs, hc1, hc2, ht, hE, hsz⟩ := run_runes l hl w
  have hnl := runes_len l
  have HOK := hid (runes_ok l)
  obtain ⟨L, hL⟩ : ∃ L, runes l = L := ⟨_, rfl⟩
  rw [hL] at e1 hc1 hnl ht HOK
  have HL := hid (show foldL l = enc (L.map foldN) by unfold foldL; rw [hL])
  obtain ⟨N, hN⟩ : ∃ N, L.length = N := ⟨_, rfl⟩
  rw [hN] at e1 hc1 hnl ht
  have HN := hid hN
  have HB0 := hid hB
  have HS0 := hid hcs
  have HT0 := hid ht
  have HE0 := hid hE
  clear hN hL hB hcs ht hE
  go_enter Tryd.func24, Tryd.ntmps24
  go_wp2
  clear e1
  go_loopw [4] (fun i wr => ∃ (k : Nat) (cur : Array Value), k ≤ N ∧ i = .int .i64 k ∧ Hid (wr.heap[w.heap.size]? = some (.cells cur 21 (0, 0))) ∧ Hid (cur.size = cap) ∧ Hid (cur.toList.take N = ((L.take k).map foldN ++ L.drop k).map rn) ∧ Hid (Ext w wr)) (fun i _ => N - (intOf i).toNat)
  case atStart => exact ⟨0, cur0, by omega, rfl, HB0, HS0, hid (by simpa using HT0.out), HE0⟩
  case round =>
    obtain ⟨k, cur, hk, rfl, HB, HS, HT, HE⟩ := hrel
    by_cases hlt : k < N
    · have hkL : k < L.length := by rw [HN.out]; exact hlt
      have hlen : k < ((L.take k).map foldN ++ L.drop k).length := by simp; omega
      obtain ⟨hc, hfz⟩ := cells_of_block HB.out HT.out k hlen
      have hat : ((L.take k).map foldN ++ L.drop k)[k]'hlen = L[k] := by
        rw [List.getElem_append_right (by simp; omega)]
        simp [Nat.min_eq_left (Nat.le_of_lt hkL)]
      rw [hat] at hc
      obtain ⟨R, hR⟩ : ∃ R, L[k] = R := ⟨_, rfl⟩
      have hok := HOK.out _ (List.getElem_mem hkL)
      rw [hR] at hc hok
      have HR := hid hR
      have HZ := hid (zs_step foldN hkL)
      rw [hR] at HZ
      unfold okR at hok
      have hRb : (R : Int) ≤ 1114111 := by omega
      have hI0 : (0 : Int) ≤ k := by omega
      have hI1 : (k : Int) < N := by omega
      clear hat hR hok hlen
      have hcase : R < 65 ∨ (65 ≤ R ∧ R ≤ 90) ∨ (91 ≤ R ∧ R ≤ 912) ∨ (913 ≤ R ∧ R ≤ 929) ∨ R = 930 ∨ (931 ≤ R ∧ R ≤ 937) ∨ (938 ≤ R ∧ R ≤ 961) ∨ R = 962 ∨ 963 ≤ R := by omega
      rcases hcase with hcase | hcase | hcase | hcase | hcase | hcase | hcase | hcase | hcase
      · have d0 : decide ((65 : Int) ≤ R) = false := by first | (rw [decide_eq_true_eq]; omega) | (rw [decide_eq_false_iff_not]; omega)
        have d1 : decide ((R : Int) ≤ 90) = true := by first | (rw [decide_eq_true_eq]; omega) | (rw [decide_eq_false_iff_not]; omega)
        have d2 : decide ((913 : Int) ≤ R) = false := by first | (rw [decide_eq_true_eq]; omega) | (rw [decide_eq_false_iff_not]; omega)
        have d3 : decide ((R : Int) ≤ 937) = true := by first | (rw [decide_eq_true_eq]; omega) | (rw [decide_eq_false_iff_not]; omega)
        have d4 : ((R : Int) != 930) = true := by first | (rw [bne_iff_ne]; omega) | (rw [bne_eq_false_iff_eq]; omega)
        have d5 : ((R : Int) == 962) = false := by first | (rw [beq_iff_eq]; omega) | (rw [beq_eq_false_iff_ne]; omega)
        have hfn : foldN R = R := by
          unfold foldN
          repeat' split
          all_goals omega
        have HFN := hid hfn
        clear hfn hcase
        go_wp2
        go_roundw
        case rel => exact ⟨k + 1, cur, by omega, by go_num, HB, HS, hid (by rw [HZ.out, HFN.out, zs_same HR.out, HT.out]), HE⟩
        case measure => simp [intOf]; omega
      · have d0 : decide ((65 : Int) ≤ R) = true := by first | (rw [decide_eq_true_eq]; omega) | (rw [decide_eq_false_iff_not]; omega)
        have d1 : decide ((R : Int) ≤ 90) = true := by first | (rw [decide_eq_true_eq]; omega) | (rw [decide_eq_false_iff_not]; omega)
        have d2 : decide ((913 : Int) ≤ R) = false := by first | (rw [decide_eq_true_eq]; omega) | (rw [decide_eq_false_iff_not]; omega)
        have d3 : decide ((R : Int) ≤ 937) = true := by first | (rw [decide_eq_true_eq]; omega) | (rw [decide_eq_false_iff_not]; omega)
        have d4 : ((R : Int) != 930) = true := by first | (rw [bne_iff_ne]; omega) | (rw [bne_eq_false_iff_eq]; omega)
        have d5 : ((R : Int) == 962) = false := by first | (rw [beq_iff_eq]; omega) | (rw [beq_eq_false_iff_ne]; omega)
        have hfn : foldN R = R + 32 := by
          unfold foldN
          repeat' split
          all_goals omega
        have HFN := hid hfn
        clear hfn hcase
        have hB2 := Go.Joins.block_setCell (i := k) HB.out (.int .i32 ((R : Int) + 32))
        have hE2 : Ext w (wr.setCell ⟨w.heap.size, k, none⟩ (.int .i32 ((R : Int) + 32))) := Below.setCell HE.out (by dsimp only; omega) _
        have HB2 := hid hB2
        have HE2 := hid hE2
        clear hB2 hE2
        go_wp2
        go_roundw
        case rel => exact ⟨k + 1, _, by omega, by go_num, HB2, hid (by rw [Array.size_setIfInBounds]; exact HS.out), hid (by
          rw [HZ.out, HFN.out]
          exact take_set HT.out (by omega)), HE2⟩
        case measure => simp [intOf]; omega
      · have d0 : decide ((65 : Int) ≤ R) = true := by first | (rw [decide_eq_true_eq]; omega) | (rw [decide_eq_false_iff_not]; omega)
        have d1 : decide ((R : Int) ≤ 90) = false := by first | (rw [decide_eq_true_eq]; omega) | (rw [decide_eq_false_iff_not]; omega)
        have d2 : decide ((913 : Int) ≤ R) = false := by first | (rw [decide_eq_true_eq]; omega) | (rw [decide_eq_false_iff_not]; omega)
        have d3 : decide ((R : Int) ≤ 937) = true := by first | (rw [decide_eq_true_eq]; omega) | (rw [decide_eq_false_iff_not]; omega)
        have d4 : ((R : Int) != 930) = true := by first | (rw [bne_iff_ne]; omega) | (rw [bne_eq_false_iff_eq]; omega)
        have d5 : ((R : Int) == 962) = false := by first | (rw [beq_iff_eq]; omega) | (rw [beq_eq_false_iff_ne]; omega)
        have hfn : foldN R = R := by
          unfold foldN
          repeat' split
          all_goals omega
        have HFN := hid hfn
        clear hfn hcase
        go_wp2
        go_roundw
        case rel => exact ⟨k + 1, cur, by omega, by go_num, HB, HS, hid (by rw [HZ.out, HFN.out, zs_same HR.out, HT.out]), HE⟩
        case measure => simp [intOf]; omega
      · have d0 : decide ((65 : Int) ≤ R) = true := by first | (rw [decide_eq_true_eq]; omega) | (rw [decide_eq_false_iff_not]; omega)
        have d1 : decide ((R : Int) ≤ 90) = false := by first | (rw [decide_eq_true_eq]; omega) | (rw [decide_eq_false_iff_not]; omega)
        have d2 : decide ((913 : Int) ≤ R) = true := by first | (rw [decide_eq_true_eq]; omega) | (rw [decide_eq_false_iff_not]; omega)
        have d3 : decide ((R : Int) ≤ 937) = true := by first | (rw [decide_eq_true_eq]; omega) | (rw [decide_eq_false_iff_not]; omega)
        have d4 : ((R : Int) != 930) = true := by first | (rw [bne_iff_ne]; omega) | (rw [bne_eq_false_iff_eq]; omega)
        have d5 : ((R : Int) == 962) = false := by first | (rw [beq_iff_eq]; omega) | (rw [beq_eq_false_iff_ne]; omega)
        have hfn : foldN R = R + 32 := by
          unfold foldN
          repeat' split
          all_goals omega
        have HFN := hid hfn
        clear hfn hcase
        have hB2 := Go.Joins.block_setCell (i := k) HB.out (.int .i32 ((R : Int) + 32))
        have hE2 : Ext w (wr.setCell ⟨w.heap.size, k, none⟩ (.int .i32 ((R : Int) + 32))) := Below.setCell HE.out (by dsimp only; omega) _
        have HB2 := hid hB2
        have HE2 := hid hE2
        clear hB2 hE2
        go_wp2
        go_roundw
        case rel => exact ⟨k + 1, _, by omega, by go_num, HB2, hid (by rw [Array.size_setIfInBounds]; exact HS.out), hid (by
          rw [HZ.out, HFN.out]
          exact take_set HT.out (by omega)), HE2⟩
        case measure => simp [intOf]; omega
      · have d0 : decide ((65 : Int) ≤ R) = true := by first | (rw [decide_eq_true_eq]; omega) | (rw [decide_eq_false_iff_not]; omega)
        have d1 : decide ((R : Int) ≤ 90) = false := by first | (rw [decide_eq_true_eq]; omega) | (rw [decide_eq_false_iff_not]; omega)
        have d2 : decide ((913 : Int) ≤ R) = true := by first | (rw [decide_eq_true_eq]; omega) | (rw [decide_eq_false_iff_not]; omega)
        have d3 : decide ((R : Int) ≤ 937) = true := by first | (rw [decide_eq_true_eq]; omega) | (rw [decide_eq_false_iff_not]; omega)
        have d4 : ((R : Int) != 930) = false := by first | (rw [bne_iff_ne]; omega) | (rw [bne_eq_false_iff_eq]; omega)
        have d5 : ((R : Int) == 962) = false := by first | (rw [beq_iff_eq]; omega) | (rw [beq_eq_false_iff_ne]; omega)
        have hfn : foldN R = R := by
          unfold foldN
          repeat' split
          all_goals omega
        have HFN := hid hfn
        clear hfn hcase
        go_wp2
        go_roundw
        case rel => exact ⟨k + 1, cur, by omega, by go_num, HB, HS, hid (by rw [HZ.out, HFN.out, zs_same HR.out, HT.out]), HE⟩
        case measure => simp [intOf]; omega
      · have d0 : decide ((65 : Int) ≤ R) = true := by first | (rw [decide_eq_true_eq]; omega) | (rw [decide_eq_false_iff_not]; omega)
        have d1 : decide ((R : Int) ≤ 90) = false := by first | (rw [decide_eq_true_eq]; omega) | (rw [decide_eq_false_iff_not]; omega)
        have d2 : decide ((913 : Int) ≤ R) = true := by first | (rw [decide_eq_true_eq]; omega) | (rw [decide_eq_false_iff_not]; omega)
        have d3 : decide ((R : Int) ≤ 937) = true := by first | (rw [decide_eq_true_eq]; omega) | (rw [decide_eq_false_iff_not]; omega)
        have d4 : ((R : Int) != 930) = true := by first | (rw [bne_iff_ne]; omega) | (rw [bne_eq_false_iff_eq]; omega)
        have d5 : ((R : Int) == 962) = false := by first | (rw [beq_iff_eq]; omega) | (rw [beq_eq_false_iff_ne]; omega)
        have hfn : foldN R = R + 32 := by
          unfold foldN
          repeat' split
          all_goals omega
        have HFN := hid hfn
        clear hfn hcase
        have hB2 := Go.Joins.block_setCell (i := k) HB.out (.int .i32 ((R : Int) + 32))
        have hE2 : Ext w (wr.setCell ⟨w.heap.size, k, none⟩ (.int .i32 ((R : Int) + 32))) := Below.setCell HE.out (by dsimp only; omega) _
        have HB2 := hid hB2
        have HE2 := hid hE2
        clear hB2 hE2
        go_wp2
        go_roundw
        case rel => exact ⟨k + 1, _, by omega, by go_num, HB2, hid (by rw [Array.size_setIfInBounds]; exact HS.out), hid (by
          rw [HZ.out, HFN.out]
          exact take_set HT.out (by omega)), HE2⟩
        case measure => simp [intOf]; omega
      · have d0 : decide ((65 : Int) ≤ R) = true := by first | (rw [decide_eq_true_eq]; omega) | (rw [decide_eq_false_iff_not]; omega)
        have d1 : decide ((R : Int) ≤ 90) = false := by first | (rw [decide_eq_true_eq]; omega) | (rw [decide_eq_false_iff_not]; omega)
        have d2 : decide ((913 : Int) ≤ R) = true := by first | (rw [decide_eq_true_eq]; omega) | (rw [decide_eq_false_iff_not]; omega)
        have d3 : decide ((R : Int) ≤ 937) = false := by first | (rw [decide_eq_true_eq]; omega) | (rw [decide_eq_false_iff_not]; omega)
        have d4 : ((R : Int) != 930) = true := by first | (rw [bne_iff_ne]; omega) | (rw [bne_eq_false_iff_eq]; omega)
        have d5 : ((R : Int) == 962) = false := by first | (rw [beq_iff_eq]; omega) | (rw [beq_eq_false_iff_ne]; omega)
        have hfn : foldN R = R := by
          unfold foldN
          repeat' split
          all_goals omega
        have HFN := hid hfn
        clear hfn hcase
        go_wp2
        go_roundw
        case rel => exact ⟨k + 1, cur, by omega, by go_num, HB, HS, hid (by rw [HZ.out, HFN.out, zs_same HR.out, HT.out]), HE⟩
        case measure => simp [intOf]; omega
      · have d0 : decide ((65 : Int) ≤ R) = true := by first | (rw [decide_eq_true_eq]; omega) | (rw [decide_eq_false_iff_not]; omega)
        have d1 : decide ((R : Int) ≤ 90) = false := by first | (rw [decide_eq_true_eq]; omega) | (rw [decide_eq_false_iff_not]; omega)
        have d2 : decide ((913 : Int) ≤ R) = true := by first | (rw [decide_eq_true_eq]; omega) | (rw [decide_eq_false_iff_not]; omega)
        have d3 : decide ((R : Int) ≤ 937) = false := by first | (rw [decide_eq_true_eq]; omega) | (rw [decide_eq_false_iff_not]; omega)
        have d4 : ((R : Int) != 930) = true := by first | (rw [bne_iff_ne]; omega) | (rw [bne_eq_false_iff_eq]; omega)
        have d5 : ((R : Int) == 962) = true := by first | (rw [beq_iff_eq]; omega) | (rw [beq_eq_false_iff_ne]; omega)
        have hfn : foldN R = 963 := by
          unfold foldN
          repeat' split
          all_goals omega
        have HFN := hid hfn
        clear hfn hcase
        have hB2 := Go.Joins.block_setCell (i := k) HB.out (.int .i32 963)
        have hE2 : Ext w (wr.setCell ⟨w.heap.size, k, none⟩ (.int .i32 963)) := Below.setCell HE.out (by dsimp only; omega) _
        have HB2 := hid hB2
        have HE2 := hid hE2
        clear hB2 hE2
        go_wp2
        go_roundw
        case rel => exact ⟨k + 1, _, by omega, by go_num, HB2, hid (by rw [Array.size_setIfInBounds]; exact HS.out), hid (by
          rw [HZ.out, HFN.out]
          exact take_set HT.out (by omega)), HE2⟩
        case measure => simp [intOf]; omega
      · have d0 : decide ((65 : Int) ≤ R) = true := by first | (rw [decide_eq_true_eq]; omega) | (rw [decide_eq_false_iff_not]; omega)
        have d1 : decide ((R : Int) ≤ 90) = false := by first | (rw [decide_eq_true_eq]; omega) | (rw [decide_eq_false_iff_not]; omega)
        have d2 : decide ((913 : Int) ≤ R) = true := by first | (rw [decide_eq_true_eq]; omega) | (rw [decide_eq_false_iff_not]; omega)
        have d3 : decide ((R : Int) ≤ 937) = false := by first | (rw [decide_eq_true_eq]; omega) | (rw [decide_eq_false_iff_not]; omega)
        have d4 : ((R : Int) != 930) = true := by first | (rw [bne_iff_ne]; omega) | (rw [bne_eq_false_iff_eq]; omega)
        have d5 : ((R : Int) == 962) = false := by first | (rw [beq_iff_eq]; omega) | (rw [beq_eq_false_iff_ne]; omega)
        have hfn : foldN R = R := by
          unfold foldN
          repeat' split
          all_goals omega
        have HFN := hid hfn
        clear hfn hcase
        go_wp2
        go_roundw
        case rel => exact ⟨k + 1, cur, by omega, by go_num, HB, HS, hid (by rw [HZ.out, HFN.out, zs_same HR.out, HT.out]), HE⟩
        case measure => simp [intOf]; omega
    · obtain rfl : k = N := by omega
      have hz : ((L.take k).map foldN ++ L.drop k) = L.map foldN := by
        rw [List.take_of_length_le (by rw [HN.out]; exact Nat.le_refl _), List.drop_of_length_le (by rw [HN.out]; exact Nat.le_refl _), List.append_nil]
      have ht := HT.out
      rw [hz] at ht
      have e2 := run_convert_runes (P := Tryd.prog) wr 78 9 21 ⟨w.heap.size, 0, none⟩ k cap ((L.map foldN).map fun r : Nat => (r : Int)) (by simp [HN.out]) Tryd.underlying78 Tryd.underlying21 Tryd.underlying9 (fun j hj => by
        have hj2 : j < (L.map foldN).length := by simpa using hj
        have h1 := (cells_of_block HB.out ht j hj2).1
        have h2 : (⟨w.heap.size, 0, none⟩ : Addr).add j = ⟨w.heap.size, j, none⟩ := by unfold Addr.add; split <;> simp_all
        rw [h2, h1]
        have hj3 : j < L.length := by simpa using hj
        simp [List.getD, hj3])
      have hfin : runesBytes ((((L.map foldN).map fun r : Nat => (r : Int))).take k) = str (foldL l) := by
        rw [List.take_of_length_le (by simp [HN.out]), HL.out]
        apply ByteArray.ext
        apply Array.ext'
        rw [runesBytes_enc _ (fun r hr => by
          obtain ⟨x, hx, rfl⟩ := List.mem_map.1 hr
          exact foldN_ok (HOK.out x hx)), str_data]
      rw [hfin] at e2
      clear hz ht hfin
      go_wp2
      go_ret
      exact ⟨rfl, HE.out⟩

set_option maxRecDepth 100000 in
set_option maxHeartbeats 1000000 in
theorem rless3_any (a b : List UInt8) (w : World) (ha : a.length ≤ 1048576) (hb : b.length ≤ 1048576) :
    Calls Tryd.prog 29 #[.string (str a), .string (str b)] w fun e w' => e = .returned (.bool (lessR (runes a) (runes b))) ∧ Ext w w' := by
  obtain ⟨cap, cur, W, e1, hB, -, hc1, hc2, ht, hE, hs1⟩ := run_runes a ha w
  obtain ⟨cap2, cur2, W2, e2, hB2, -, hd1, hd2, ht2, hE2, -⟩ := run_runes b hb W
  have hna := runes_len a
  have hnb := runes_len b
  have HC := hid (fun k hk => hE2.cell (cells_of_block hB ht k hk).1)
  have HD := hid (fun k hk => (cells_of_block hB2 ht2 k hk).1)
  have HE := hid (hE.trans hE2)
  clear hB ht hE hB2 ht2 hE2
  obtain ⟨X, hX⟩ : ∃ X, runes a = X := ⟨_, rfl⟩
  obtain ⟨Y, hY⟩ : ∃ Y, runes b = Y := ⟨_, rfl⟩
  rw [hX] at e1 hc1 hna HC ⊢
  rw [hY] at e2 hd1 hnb HD ⊢
  clear hX hY
  obtain ⟨M, hM⟩ : ∃ M, X.length = M := ⟨_, rfl⟩
  obtain ⟨N, hN⟩ : ∃ N, Y.length = N := ⟨_, rfl⟩
  rw [hM] at e1 hc1 hna
  rw [hN] at e2 hd1 hnb
  have HM := hid hM
  have HN := hid hN
  clear hM hN
  go_enter Tryd.func29, Tryd.ntmps29
  go_wp2
  clear e1 e2
  obtain ⟨B1, hB1⟩ : ∃ B1, w.heap.size = B1 := ⟨_, rfl⟩
  obtain ⟨B2, hB2⟩ : ∃ B2, W.heap.size = B2 := ⟨_, rfl⟩
  rw [hB1] at HC ⊢
  rw [hB2] at HD ⊢
  clear hB1 hB2 hs1
  go_loopw [7] (fun i wr => ∃ k : Nat, k ≤ M ∧ k ≤ N ∧ i = .int .i64 k ∧ Hid (lessR X Y = lessR (X.drop k) (Y.drop k)) ∧ ∃ n, wr = W2.drewN n) (fun i _ => M - (intOf i).toNat)
  case atStart => exact ⟨0, by omega, by omega, rfl, hid (by simp), 0, rfl⟩
  case round =>
    obtain ⟨k, hk, hk2, rfl, HR, n, rfl⟩ := hrel
    by_cases hlt : k < M
    · by_cases hlt2 : k < N
      · have hkX : k < X.length := by rw [HM.out]; exact hlt
        have hkY : k < Y.length := by rw [HN.out]; exact hlt2
        have hc := HC.out k hkX
        have hd := HD.out k hkY
        have hr := HR.out
        rw [List.drop_eq_getElem_cons hkX, List.drop_eq_getElem_cons hkY, lessR_cons] at hr
        obtain ⟨P, hP⟩ : ∃ P, X[k] = P := ⟨_, rfl⟩
        obtain ⟨Q, hQ⟩ : ∃ Q, Y[k] = Q := ⟨_, rfl⟩
        rw [hP] at hc hr
        rw [hQ] at hd hr
        have HR2 := hid hr
        have hI0 : (0 : Int) ≤ k := by omega
        have hI1 : (k : Int) < M := by omega
        have hI2 : (k : Int) < N := by omega
        clear hP hQ hr
        go_wp2
        by_cases he : P = Q
        · have htq : ((P : Int) != (Q : Int)) = false := by simp [he]
          go_quiet (fail)
          go_wp2
          go_roundw
          case rel => exact ⟨k + 1, by omega, by omega, by go_num, hid (by rw [HR2.out, if_pos he]), _, rfl⟩
          case measure => simp [intOf]; omega
        · have htq : ((P : Int) != (Q : Int)) = true := by simp; omega
          have HF := hid (show lessR X Y = decide ((P : Int) < Q) by rw [HR2.out, if_neg he]; simp)
          clear he
          go_quiet (fail)
          go_wp2
          go_quiet (fail)
          go_wp2
          go_ret
          refine ⟨by rw [HF.out]; simp, HE.out.trans (((Ext.drewN _ _).trans (Ext.drewN _ _)).trans (Ext.drewN _ _))⟩
      · obtain rfl : k = N := by omega
        have HF := hid (show lessR X Y = false by
          rw [HR.out, List.drop_of_length_le (l := Y) (by rw [HN.out]; exact Nat.le_refl _)]
          cases X.drop k <;> rfl)
        have d1 : decide (M < k) = false := by simp; omega
        have d2 : decide ((M : Int) < (k : Int)) = false := by simp; omega
        go_wp2
        go_ret
        exact ⟨by rw [HF.out]; rfl, HE.out.trans (Ext.drewN _ _)⟩
    · obtain rfl : k = M := by omega
      have HF := hid (show lessR X Y = decide (k < N) by
        rw [HR.out, List.drop_of_length_le (l := X) (by rw [HM.out]; exact Nat.le_refl _)]
        by_cases h : k < N
        · rw [List.drop_eq_getElem_cons (by rw [HN.out]; exact h)]; simp [h, lessR]
        · rw [List.drop_of_length_le (by rw [HN.out]; omega)]; simp [h, lessR])
      go_wp2
      all_goals
        go_ret
        exact ⟨by rw [HF.out]; simp <;> omega, HE.out.trans (Ext.drewN _ _)⟩

end Go.Proofs.YtfpljeblehieiaaDoor
