/- LabelFolds, LabelCuts, LabelOrders. -/
import Derived.Test.YtakhanlnfoajcaaDoorLaw03
import Derived.Test.YtakhanlnfoajcaaDoorPar
set_option linter.unusedSimpArgs false
set_option linter.unusedVariables false
namespace Go.Tum.Rn
open Go.Lib
theorem enc_len : ∀ (l : List Nat), (enc l).length ≤ 4 * l.length
  | [] => by simp [enc]
  | r :: l => by
    have h1 := enc_len l
    have h2 := (encodeRuneZ_length (r : Int)).2
    rw [enc_cons, List.length_append, List.length_cons]
    have h3 : (encodeRune (r : Int)).length = (encodeRuneZ (r : Int)).length := by simp [encodeRune]
    omega
theorem fold_len (l : List UInt8) : (foldL l).length ≤ 4 * l.length := by
  unfold foldL
  have h1 := enc_len ((runes l).map foldN)
  have h2 := runes_len l
  rw [List.length_map] at h1
  omega
theorem cut_len (n : Int) (l : List UInt8) : (cutL n l).length = bw n.toNat l := by
  unfold cutL
  rw [List.length_take]
  have := bw_le n.toNat l
  omega
theorem cut_take (n : Int) (l : List UInt8) : l.take (cutL n l).length = cutL n l := by rw [cut_len]; rfl
theorem cut_drop (n : Int) (l : List UInt8) : (runes (l.drop (cutL n l).length)).length = (runes l).length - n.toNat := by rw [cut_len, runes_drop, List.length_drop]
theorem cut_runes (n : Int) (l : List UInt8) : (runes (cutL n l)).length = min n.toNat (runes l).length := by unfold cutL; rw [runes_take, List.length_take]
theorem cut_cut (n : Int) (l : List UInt8) : cutL n (cutL n l) = cutL n l := by
  have h := bw_all n.toNat (cutL n l) (by rw [cut_runes]; omega)
  show (cutL n l).take (bw n.toNat (cutL n l)) = cutL n l
  rw [h, List.take_length]
end Go.Tum.Rn
namespace Go.Proofs.YtakhanlnfoajcaaDoor
open Go Go.RowKit Go.Tum Go.Tum.Rn

set_option maxHeartbeats 1000000 in
theorem labelFolds_law (l : List UInt8) (w : World) (ht : TB w) :
    Calls Tryd.prog 4 #[.string (str l)] w fun e w' => e = .returned (.bool true) ∧ Ext w w' := by
  have HT := hid ht
  clear ht
  have hsz : (str l).size = l.length := str_size l
  by_cases hlong : 300 < l.length
  · have hd : decide ((300 : Int) < l.length) = true := by simp; omega
    go_enter Tryd.func4, Tryd.ntmps4
    go_wp2_with fail
    refine (awake_any _ HT.out).mono ?_
    rintro e w1 ⟨rfl, hw⟩
    go_wp2
    go_ret
    exact ⟨rfl, hw⟩
  have hd : decide ((300 : Int) < l.length) = false := by simp; omega
  go_enter Tryd.func4, Tryd.ntmps4
  go_wp2_with fail
  refine (awake_any _ HT.out).mono ?_
  rintro e w1 ⟨rfl, hw⟩
  have HE1 := hid hw
  clear hw
  go_wp2_with fail
  clear hd
  have hfl := fold_len l
  have hff := fold_fold l
  have hfr : (runes (foldL l)).length = (runes l).length := by rw [runes_fold, List.length_map]
  have hri : rightL l = true → rightL (foldL l) = true := right_fold
  refine (fold_any l _ (by omega) (HT.out.ext HE1.out)).mono ?_
  rintro e w2 ⟨rfl, hw⟩
  obtain ⟨F, hF⟩ : ∃ F, foldL l = F := ⟨_, rfl⟩
  rw [hF] at hfl hff hfr hri ⊢
  have HFF := hid hff
  have HFR := hid hfr
  have HRI := hid hri
  have HE2 := hid (HE1.out.trans hw)
  clear hw hff hfr hri hF hsz
  have hlF : F.length ≤ 1048576 := by omega
  have hll : l.length ≤ 1048576 := by omega
  go_wp2_with fail
  refine (fold_any F _ hlF (HT.out.ext HE2.out)).mono ?_
  rintro e w3 ⟨rfl, hw⟩
  rw [HFF.out]
  have HE3 := hid (HE2.out.trans hw)
  clear hw
  go_wp2_with fail
  refine (len_any F _ hlF).mono ?_
  rintro e w4 ⟨rfl, hw⟩
  rw [HFR.out]
  have HE4 := hid (HE3.out.trans hw)
  clear hw
  go_wp2_with fail
  refine (len_any l _ hll).mono ?_
  rintro e w5 ⟨rfl, hw⟩
  have HE5 := hid (HE4.out.trans hw)
  clear hw
  go_wp2_with fail
  refine (right_any l _ hll).mono ?_
  rintro e w6 ⟨rfl, hw⟩
  obtain ⟨RB, hRB⟩ : ∃ RB, rightL l = RB := ⟨_, rfl⟩
  rw [hRB]
  have HE6 := hid (HE5.out.trans hw)
  clear hw
  cases RB with
  | false =>
    clear hRB
    go_wp2
    go_ret
    exact ⟨rfl, HE6.out⟩
  | true =>
    have HR2 := hid (HRI.out hRB)
    clear hRB
    go_wp2_with fail
    refine (right_any F _ hlF).mono ?_
    rintro e w7 ⟨rfl, hw⟩
    rw [HR2.out]
    have hE7 := HE6.out.trans hw
    clear hw
    go_wp2
    go_ret
    exact ⟨rfl, hE7⟩

set_option maxHeartbeats 1000000 in
theorem labelOrders_law (a b c : List UInt8) (w : World) (ht : TB w) :
    Calls Tryd.prog 6 #[.string (str a), .string (str b), .string (str c)] w fun e w' => e = .returned (.bool true) ∧ Ext w w' := by
  have HT := hid ht
  clear ht
  have hsa : (str a).size = a.length := str_size a
  have hsb : (str b).size = b.length := str_size b
  have hsc : (str c).size = c.length := str_size c
  by_cases hla : 300 < a.length ∨ 300 < b.length ∨ 300 < c.length
  · go_enter Tryd.func6, Tryd.ntmps6
    go_wp2_with fail
    refine (awake_any _ HT.out).mono ?_
    rintro e w1 ⟨rfl, hw⟩
    have HE1 := hid hw
    clear hw
    by_cases h1 : 300 < a.length
    · have hd : decide ((300 : Int) < a.length) = true := by simp; omega
      go_wp2
      go_ret
      exact ⟨rfl, HE1.out⟩
    · have hd : decide ((300 : Int) < a.length) = false := by simp; omega
      by_cases h2 : 300 < b.length
      · have hd2 : decide ((300 : Int) < b.length) = true := by simp; omega
        go_wp2
        go_ret
        exact ⟨rfl, HE1.out⟩
      · have hd2 : decide ((300 : Int) < b.length) = false := by simp; omega
        have hd3 : decide ((300 : Int) < c.length) = true := by simp; omega
        go_wp2
        go_ret
        exact ⟨rfl, HE1.out⟩
  have hd : decide ((300 : Int) < a.length) = false := by simp; omega
  have hd2 : decide ((300 : Int) < b.length) = false := by simp; omega
  have hd3 : decide ((300 : Int) < c.length) = false := by simp; omega
  have ha : a.length ≤ 1048576 := by omega
  have hb : b.length ≤ 1048576 := by omega
  have hc : c.length ≤ 1048576 := by omega
  go_enter Tryd.func6, Tryd.ntmps6
  go_wp2_with fail
  refine (awake_any _ HT.out).mono ?_
  rintro e w1 ⟨rfl, hw⟩
  have HE1 := hid hw
  clear hw
  clear hla
  obtain ⟨AB, hAB⟩ : ∃ AB, lessR (runes a) (runes b) = AB := ⟨_, rfl⟩
  have HAB := hid hAB
  clear hAB
  go_wp2_with fail
  refine (less_any a a _ ha ha (HT.out.ext HE1.out)).mono ?_
  rintro e w2 ⟨rfl, hw⟩
  rw [lessR_irrefl]
  have HE2 := hid (HE1.out.trans hw)
  clear hw
  clear hd hd2 hd3 hsa hsb hsc
  go_wp2_with fail
  refine (less_any a b _ ha hb (HT.out.ext HE2.out)).mono ?_
  rintro e w3 ⟨rfl, hw⟩
  rw [HAB.out]
  have HE3 := hid (HE2.out.trans hw)
  clear hw
  cases AB with
  | true =>
    have HBA := hid (lessR_asymm _ _ HAB.out)
    go_wp2_with fail
    refine (less_any b a _ hb ha (HT.out.ext HE3.out)).mono ?_
    rintro e w4 ⟨rfl, hw⟩
    rw [HBA.out]
    have HE4 := hid (HE3.out.trans hw)
    clear hw
    go_wp2_with fail
    refine (less_any a b _ ha hb (HT.out.ext HE4.out)).mono ?_
    rintro e w5 ⟨rfl, hw⟩
    rw [HAB.out]
    have HE5 := hid (HE4.out.trans hw)
    clear hw
    obtain ⟨BC, hBC⟩ : ∃ BC, lessR (runes b) (runes c) = BC := ⟨_, rfl⟩
    have HBC := hid hBC
    clear hBC
    go_wp2_with fail
    refine (less_any b c _ hb hc (HT.out.ext HE5.out)).mono ?_
    rintro e w16 ⟨rfl, hw⟩
    rw [HBC.out]
    have HE16 := hid (HE5.out.trans hw)
    clear hw
    cases BC with
    | true =>
      have HAC := hid (lessR_trans _ _ _ HAB.out HBC.out)
      go_wp2_with fail
      refine (less_any a c _ ha hc (HT.out.ext HE16.out)).mono ?_
      rintro e w6 ⟨rfl, hw⟩
      rw [HAC.out]
      have HE6 := hid (HE16.out.trans hw)
      clear hw

      go_wp2_with fail
      refine (right_any a _ ha).mono ?_
      rintro e w7 ⟨rfl, hw⟩
      obtain ⟨RA, hRA⟩ : ∃ RA, rightL a = RA := ⟨_, rfl⟩
      rw [hRA]
      have HRA := hid hRA
      have HE7 := hid (HE6.out.trans hw)
      clear hw hRA
      cases RA with
      | false =>
        go_wp2
        go_ret
        exact ⟨rfl, HE7.out⟩
      | true =>
        go_wp2_with fail
        refine (right_any b _ hb).mono ?_
        rintro e w8 ⟨rfl, hw⟩
        obtain ⟨RB, hRB⟩ : ∃ RB, rightL b = RB := ⟨_, rfl⟩
        rw [hRB]
        have HRB := hid hRB
        have HE8 := hid (HE7.out.trans hw)
        clear hw hRB
        cases RB with
        | false =>
          go_wp2
          go_ret
          exact ⟨rfl, HE8.out⟩
        | true =>
          by_cases hab : a = b
          · subst hab
            have hEf := HE8.out
            go_wp2
            go_ret
            exact ⟨rfl, hEf⟩
          · have hbe : (a == b) = false := by simp [hab]
            have HNE := hid hab
            clear hab
            go_wp2_with fail
            refine (less_any a b _ ha hb (HT.out.ext HE8.out)).mono ?_
            rintro e w9 ⟨rfl, hw⟩
            rw [HAB.out]
            have HE9 := hid (HE8.out.trans hw)
            clear hw
            go_wp2
            go_ret
            exact ⟨rfl, HE9.out⟩
    | false =>
      have HE6 := HE16
      go_wp2_with fail
      refine (right_any a _ ha).mono ?_
      rintro e w7 ⟨rfl, hw⟩
      obtain ⟨RA, hRA⟩ : ∃ RA, rightL a = RA := ⟨_, rfl⟩
      rw [hRA]
      have HRA := hid hRA
      have HE7 := hid (HE6.out.trans hw)
      clear hw hRA
      cases RA with
      | false =>
        go_wp2
        go_ret
        exact ⟨rfl, HE7.out⟩
      | true =>
        go_wp2_with fail
        refine (right_any b _ hb).mono ?_
        rintro e w8 ⟨rfl, hw⟩
        obtain ⟨RB, hRB⟩ : ∃ RB, rightL b = RB := ⟨_, rfl⟩
        rw [hRB]
        have HRB := hid hRB
        have HE8 := hid (HE7.out.trans hw)
        clear hw hRB
        cases RB with
        | false =>
          go_wp2
          go_ret
          exact ⟨rfl, HE8.out⟩
        | true =>
          by_cases hab : a = b
          · subst hab
            have hEf := HE8.out
            go_wp2
            go_ret
            exact ⟨rfl, hEf⟩
          · have hbe : (a == b) = false := by simp [hab]
            have HNE := hid hab
            clear hab
            go_wp2_with fail
            refine (less_any a b _ ha hb (HT.out.ext HE8.out)).mono ?_
            rintro e w9 ⟨rfl, hw⟩
            rw [HAB.out]
            have HE9 := hid (HE8.out.trans hw)
            clear hw
            go_wp2
            go_ret
            exact ⟨rfl, HE9.out⟩
  | false =>
    go_wp2_with fail
    refine (less_any a b _ ha hb (HT.out.ext HE3.out)).mono ?_
    rintro e w6 ⟨rfl, hw⟩
    rw [HAB.out]
    have HE6 := hid (HE3.out.trans hw)
    clear hw

    go_wp2_with fail
    refine (right_any a _ ha).mono ?_
    rintro e w7 ⟨rfl, hw⟩
    obtain ⟨RA, hRA⟩ : ∃ RA, rightL a = RA := ⟨_, rfl⟩
    rw [hRA]
    have HRA := hid hRA
    have HE7 := hid (HE6.out.trans hw)
    clear hw hRA
    cases RA with
    | false =>
      go_wp2
      go_ret
      exact ⟨rfl, HE7.out⟩
    | true =>
      go_wp2_with fail
      refine (right_any b _ hb).mono ?_
      rintro e w8 ⟨rfl, hw⟩
      obtain ⟨RB, hRB⟩ : ∃ RB, rightL b = RB := ⟨_, rfl⟩
      rw [hRB]
      have HRB := hid hRB
      have HE8 := hid (HE7.out.trans hw)
      clear hw hRB
      cases RB with
      | false =>
        go_wp2
        go_ret
        exact ⟨rfl, HE8.out⟩
      | true =>
        by_cases hab : a = b
        · subst hab
          have hEf := HE8.out
          go_wp2
          go_ret
          exact ⟨rfl, hEf⟩
        · have hbe : (a == b) = false := by simp [hab]
          have HNE := hid hab
          clear hab
          go_wp2_with fail
          refine (less_any a b _ ha hb (HT.out.ext HE8.out)).mono ?_
          rintro e w9 ⟨rfl, hw⟩
          rw [HAB.out]
          have HE9 := hid (HE8.out.trans hw)
          clear hw
          have HBA := hid (lessR_total (runes a) (runes b) (fun h => HNE.out (right_inj HRA.out HRB.out h)) HAB.out)
          go_wp2_with fail
          refine (less_any b a _ hb ha (HT.out.ext HE9.out)).mono ?_
          rintro e w10 ⟨rfl, hw⟩
          rw [HBA.out]
          have hE := HE9.out.trans hw
          clear hw
          go_wp2
          go_ret
          exact ⟨rfl, hE⟩

set_option maxHeartbeats 1000000 in
theorem labelCuts_law (l : List UInt8) (n : Int) (w : World) (hn1 : -9223372036854775808 ≤ n) (hn2 : n ≤ 9223372036854775807) (ht : TB w) :
    Calls Tryd.prog 5 #[.string (str l), .int .i64 n] w fun e w' => e = .returned (.bool true) ∧ Ext w w' := by
  have HT := hid ht
  clear ht
  have hsz : (str l).size = l.length := str_size l
  by_cases hlong : 300 < l.length
  · have hd : decide ((300 : Int) < l.length) = true := by simp; omega
    go_enter Tryd.func5, Tryd.ntmps5
    go_wp2_with fail
    refine (awake_any _ HT.out).mono ?_
    rintro e w1 ⟨rfl, hw⟩
    go_wp2
    go_ret
    exact ⟨rfl, hw⟩
  have hd : decide ((300 : Int) < l.length) = false := by simp; omega
  have hll : l.length ≤ 1048576 := by omega
  go_enter Tryd.func5, Tryd.ntmps5
  go_wp2_with fail
  refine (awake_any _ HT.out).mono ?_
  rintro e w1 ⟨rfl, hw⟩
  have HE1 := hid hw
  clear hw
  go_wp2_with fail
  clear hd
  refine (cut_any l n _ hll hn1 hn2).mono ?_
  rintro e w2 ⟨rfl, hw⟩
  have HE2 := hid (HE1.out.trans hw)
  clear hw
  have h1 := cut_take n l
  have h2 := cut_drop n l
  have h3 := cut_runes n l
  have h4 := cut_cut n l
  have hCl : (cutL n l).length ≤ l.length := by rw [cut_len]; exact bw_le _ _
  obtain ⟨C, hC⟩ : ∃ C, cutL n l = C := ⟨_, rfl⟩
  rw [hC] at h1 h2 h3 h4 hCl ⊢
  clear hC
  have hsC : (str C).size = C.length := str_size C
  have hlC : C.length ≤ 1048576 := by omega
  have hx : (str l).extract 0 C.length = str C := by rw [str_extract, List.drop_zero, h1]
  have hx2 : (str l).extract C.length l.length = str (l.drop C.length) := by rw [str_extract, List.take_of_length_le (Nat.le_refl _)]
  have hlD : (l.drop C.length).length ≤ 1048576 := by rw [List.length_drop]; omega
  obtain ⟨D, hD⟩ : ∃ D, l.drop C.length = D := ⟨_, rfl⟩
  rw [hD] at hx2 h2 hlD
  obtain ⟨LS, hLS⟩ : ∃ LS, (runes l).length = LS := ⟨_, rfl⟩
  rw [hLS] at h2 h3
  have H2 := hid h2
  have H3 := hid h3
  have H4 := hid h4
  have HLS := hid (show ((runes l).length : Int) = (LS : Int) by rw [hLS])
  have hlsb : LS ≤ l.length := by rw [← hLS]; exact runes_len l
  clear h1 h2 h3 h4 hD hLS
  have hnl : decide (l.length < C.length) = false := by simp; omega
  have hnl2 : decide ((l.length : Int) < (C.length : Int)) = false := by simp; omega
  go_wp2_with fail
  refine (cut_any C n _ hlC hn1 hn2).mono ?_
  rintro e w3 ⟨rfl, hw⟩
  rw [H4.out]
  have HE3 := hid (HE2.out.trans hw)
  clear hw
  go_wp2_with fail
  clear hx hnl hnl2
  by_cases hneg : n < 0
  · have HV := hid (show ((runes C).length : Int) = 0 by have := H3.out; omega)
    have HLD := hid (show ((runes D).length : Int) = (LS : Int) by have := H2.out; omega)
    have hmx : max n 0 = 0 := by omega
    have hwr : IntKind.i64.wrap (LS : Int) = (LS : Int) := IntWalk.i64_in _ (by omega)
    refine Par.wp_region_par (l := [_, _, _, _, _, _, _, _, _, _, _, _, _, _, _, _, _, _, _, _, _, _]) rfl Ext (Par.VL [Par.EQ (Value.string (str C)), Par.EQ (Value.int IntKind.i64 0), Par.EQ (Value.int IntKind.i64 n), Par.EQ (Value.int IntKind.i64 0), Par.EQ (Value.string (str l)), Par.EQ (Value.int IntKind.i64 (LS : Int)), Par.EQ (Value.int IntKind.i64 0), Par.EQ (Value.bool true), Par.EQ (Value.bool true), Par.EQ (Value.string (str C)), Par.EQ (Value.int IntKind.i64 0), Par.EQ (Value.string (str l)), Par.EQ (Value.string (str C)), Par.EQ (Value.int IntKind.i64 (C.length : Int)), Par.EQ (Value.string (str D)), Par.EQ (Value.int IntKind.i64 (LS : Int)), Par.EQ (Value.int IntKind.i64 (LS : Int)), Par.EQ (Value.string (str l)), Par.EQ (Value.int IntKind.i64 (LS : Int)), Par.EQ (Value.bool true), Par.EQ (Value.bool true), Par.EQ (Value.bool true)]) (by kernel_rfl) Ext.refl (fun _ _ _ h1 h2 => Ext.trans h1 h2) (Ext.draw _) (Par.VL_stab ?_) ?_ ?_
    · simp only [List.forall_mem_cons, List.not_mem_nil, false_implies, implies_true, and_true]
      refine ⟨fun _ _ _ _ h => h, fun _ _ _ _ h => h, fun _ _ _ _ h => h, fun _ _ _ _ h => h, fun _ _ _ _ h => h, fun _ _ _ _ h => h, fun _ _ _ _ h => h, fun _ _ _ _ h => h, fun _ _ _ _ h => h, fun _ _ _ _ h => h, fun _ _ _ _ h => h, fun _ _ _ _ h => h, fun _ _ _ _ h => h, fun _ _ _ _ h => h, fun _ _ _ _ h => h, fun _ _ _ _ h => h, fun _ _ _ _ h => h, fun _ _ _ _ h => h, fun _ _ _ _ h => h, fun _ _ _ _ h => h, fun _ _ _ _ h => h, fun _ _ _ _ h => h⟩
    · refine ⟨⟨fun _ _ => trivial, fun ρ w' hX hG hk => ?_⟩, ?_⟩
      · exact Par.val_of_run rfl ⟨Ext.refl _, hk.1⟩
      refine ⟨⟨fun _ _ => trivial, fun ρ w' hX hG hk => ?_⟩, ?_⟩
      · obtain ⟨k0, k1, -⟩ := hk
        have e0 := k0
        have e1 : ρ (.tmp 34) = Value.string (str C) := k1
        clear k0 k1
        refine Par.val_k fun K hK => ?_
        unfold Par.val
        refine Par.val_call Tryd.func12 (by kernel_rfl) rfl e0 ?_
        simp only [List.map_toArray, List.map_cons, List.map_nil, e1]
        refine (len_any C _ hlC).mono ?_
        rintro e w2 ⟨rfl, h2⟩
        exact ⟨_, rfl, hK _ _ ⟨h2, (congrArg (Value.int IntKind.i64) HV.out)⟩⟩
      refine ⟨⟨fun _ _ => trivial, fun ρ w' hX hG hk => ?_⟩, ?_⟩
      · exact Par.val_of_run rfl ⟨Ext.refl _, hk.1⟩
      refine ⟨⟨fun _ _ => trivial, fun ρ w' hX hG hk => ?_⟩, ?_⟩
      · obtain ⟨k0, k1, -⟩ := hk
        have e0 : ρ (.tmp 36) = Value.int IntKind.i64 n := k0
        have e1 : ρ (Operand.const (Value.int IntKind.i64 0)) = (Value.int IntKind.i64 0) := k1
        clear k0 k1
        refine Par.val_k fun K hK => ?_
        unfold Par.val
        (go_simp; exact hK _ _ ⟨Ext.refl _, rfl⟩)
      refine ⟨⟨fun _ _ => trivial, fun ρ w' hX hG hk => ?_⟩, ?_⟩
      · exact Par.val_of_run rfl ⟨Ext.refl _, hk.1⟩
      refine ⟨⟨fun _ _ => trivial, fun ρ w' hX hG hk => ?_⟩, ?_⟩
      · obtain ⟨k0, k1, -⟩ := hk
        have e0 := k0
        have e1 : ρ (.tmp 38) = Value.string (str l) := k1
        clear k0 k1
        refine Par.val_k fun K hK => ?_
        unfold Par.val
        refine Par.val_call Tryd.func12 (by kernel_rfl) rfl e0 ?_
        simp only [List.map_toArray, List.map_cons, List.map_nil, e1]
        refine (len_any l _ hll).mono ?_
        rintro e w2 ⟨rfl, h2⟩
        exact ⟨_, rfl, hK _ _ ⟨h2, (congrArg (Value.int IntKind.i64) HLS.out)⟩⟩
      refine ⟨⟨fun _ _ => trivial, fun ρ w' hX hG hk => ?_⟩, ?_⟩
      · obtain ⟨k0, k1, -⟩ := hk
        have e0 : ρ (.tmp 37) = Value.int IntKind.i64 0 := k0
        have e1 : ρ (.tmp 39) = Value.int IntKind.i64 (LS : Int) := k1
        clear k0 k1
        refine Par.val_k fun K hK => ?_
        unfold Par.val
        (go_simp; exact hK _ _ ⟨Ext.refl _, rfl⟩)
      refine ⟨⟨fun _ _ => trivial, fun ρ w' hX hG hk => ?_⟩, ?_⟩
      · obtain ⟨k0, k1, -⟩ := hk
        have e0 : ρ (.tmp 35) = Value.int IntKind.i64 0 := k0
        have e1 : ρ (.tmp 40) = Value.int IntKind.i64 0 := k1
        clear k0 k1
        refine Par.val_k fun K hK => ?_
        unfold Par.val
        (go_simp; exact hK _ _ ⟨Ext.refl _, rfl⟩)
      refine ⟨⟨fun _ _ => trivial, fun ρ w' hX hG hk => ?_⟩, ?_⟩
      · exact Par.val_of_run rfl ⟨Ext.refl _, hk.1⟩
      refine ⟨⟨fun _ _ u hu => .inl hu, fun ρ w' hX hG hk => ?_⟩, ?_⟩
      · exact Par.val_of_run rfl ⟨Ext.refl _, hk.1⟩
      refine ⟨⟨fun _ _ u hu => .inl hu, fun ρ w' hX hG hk => ?_⟩, ?_⟩
      · obtain ⟨k0, k1, -⟩ := hk
        have e0 := k0
        have e1 : ρ (.tmp 43) = Value.string (str C) := k1
        clear k0 k1
        refine Par.val_k fun K hK => ?_
        unfold Par.val
        refine Par.val_call Tryd.func12 (by kernel_rfl) rfl e0 ?_
        simp only [List.map_toArray, List.map_cons, List.map_nil, e1]
        refine (len_any C _ hlC).mono ?_
        rintro e w2 ⟨rfl, h2⟩
        exact ⟨_, rfl, hK _ _ ⟨h2, (congrArg (Value.int IntKind.i64) HV.out)⟩⟩
      refine ⟨⟨fun _ _ u hu => .inl hu, fun ρ w' hX hG hk => ?_⟩, ?_⟩
      · exact Par.val_of_run rfl ⟨Ext.refl _, hk.1⟩
      refine ⟨⟨fun _ _ u hu => .inl hu, fun ρ w' hX hG hk => ?_⟩, ?_⟩
      · exact Par.val_of_run rfl ⟨Ext.refl _, hk.1⟩
      refine ⟨⟨fun _ _ u hu => .inl hu, fun ρ w' hX hG hk => ?_⟩, ?_⟩
      · obtain ⟨k0, -⟩ := hk
        have e0 : ρ (.tmp 46) = Value.string (str C) := k0
        clear k0
        refine Par.val_k fun K hK => ?_
        unfold Par.val
        (go_simp; exact hK _ _ ⟨Ext.refl _, rfl⟩)
      refine ⟨⟨fun _ _ u hu => .inl hu, fun ρ w' hX hG hk => ?_⟩, ?_⟩
      · obtain ⟨k0, k1, -⟩ := hk
        have e0 : ρ (.tmp 45) = Value.string (str l) := k0
        have e1 : ρ (.tmp 47) = Value.int IntKind.i64 (C.length : Int) := k1
        clear k0 k1
        refine Par.val_k fun K hK => ?_
        unfold Par.val
        (go_simp; exact hK _ _ ⟨Ext.refl _, rfl⟩)
      refine ⟨⟨fun _ _ u hu => .inl hu, fun ρ w' hX hG hk => ?_⟩, ?_⟩
      · obtain ⟨k0, k1, -⟩ := hk
        have e0 := k0
        have e1 : ρ (.tmp 48) = Value.string (str D) := k1
        clear k0 k1
        refine Par.val_k fun K hK => ?_
        unfold Par.val
        refine Par.val_call Tryd.func12 (by kernel_rfl) rfl e0 ?_
        simp only [List.map_toArray, List.map_cons, List.map_nil, e1]
        refine (len_any D _ hlD).mono ?_
        rintro e w2 ⟨rfl, h2⟩
        exact ⟨_, rfl, hK _ _ ⟨h2, (congrArg (Value.int IntKind.i64) HLD.out)⟩⟩
      refine ⟨⟨fun _ _ u hu => .inl hu, fun ρ w' hX hG hk => ?_⟩, ?_⟩
      · obtain ⟨k0, k1, -⟩ := hk
        have e0 : ρ (.tmp 44) = Value.int IntKind.i64 0 := k0
        have e1 : ρ (.tmp 49) = Value.int IntKind.i64 (LS : Int) := k1
        clear k0 k1
        refine Par.val_k fun K hK => ?_
        unfold Par.val
        (go_simp; exact hK _ _ ⟨Ext.refl _, rfl⟩)
      refine ⟨⟨fun _ _ u hu => .inl hu, fun ρ w' hX hG hk => ?_⟩, ?_⟩
      · exact Par.val_of_run rfl ⟨Ext.refl _, hk.1⟩
      refine ⟨⟨fun _ _ u hu => .inl hu, fun ρ w' hX hG hk => ?_⟩, ?_⟩
      · obtain ⟨k0, k1, -⟩ := hk
        have e0 := k0
        have e1 : ρ (.tmp 51) = Value.string (str l) := k1
        clear k0 k1
        refine Par.val_k fun K hK => ?_
        unfold Par.val
        refine Par.val_call Tryd.func12 (by kernel_rfl) rfl e0 ?_
        simp only [List.map_toArray, List.map_cons, List.map_nil, e1]
        refine (len_any l _ hll).mono ?_
        rintro e w2 ⟨rfl, h2⟩
        exact ⟨_, rfl, hK _ _ ⟨h2, (congrArg (Value.int IntKind.i64) HLS.out)⟩⟩
      refine ⟨⟨fun _ _ u hu => .inl hu, fun ρ w' hX hG hk => ?_⟩, ?_⟩
      · obtain ⟨k0, k1, -⟩ := hk
        have e0 : ρ (.tmp 50) = Value.int IntKind.i64 (LS : Int) := k0
        have e1 : ρ (.tmp 52) = Value.int IntKind.i64 (LS : Int) := k1
        clear k0 k1
        refine Par.val_k fun K hK => ?_
        unfold Par.val
        (go_simp; exact hK _ _ ⟨Ext.refl _, rfl⟩)
      refine ⟨⟨fun _ _ => trivial, fun ρ w' hX hG hk => ?_⟩, ?_⟩
      · obtain ⟨k0, k1, k2, -⟩ := hk
        have e0 : ρ (.tmp 42) = Value.bool true := k0
        have e1 : ρ (.tmp 53) = Value.bool true := k1
        have e2 : ρ (Operand.const (Value.bool false)) = (Value.bool false) := k2
        clear k0 k1 k2
        refine Par.val_k fun K hK => ?_
        unfold Par.val
        (go_simp; exact hK _ _ ⟨Ext.refl _, rfl⟩)
      refine ⟨⟨fun _ _ => trivial, fun ρ w' hX hG hk => ?_⟩, ?_⟩
      · obtain ⟨k0, -⟩ := hk
        have e0 : ρ (.tmp 54) = Value.bool true := k0
        clear k0
        refine Par.val_k fun K hK => ?_
        unfold Par.val
        (go_simp; exact hK _ _ ⟨Ext.refl _, rfl⟩)
      trivial
    intro a' w' inv
    have hX := inv.ext
    have q34 : a'.tmps.getD 34 undef = Value.string (str C) := inv.done 0 _ 34 rfl rfl rfl
    have q35 : a'.tmps.getD 35 undef = Value.int IntKind.i64 0 := inv.done 1 _ 35 rfl rfl rfl
    have q36 : a'.tmps.getD 36 undef = Value.int IntKind.i64 n := inv.done 2 _ 36 rfl rfl rfl
    have q37 : a'.tmps.getD 37 undef = Value.int IntKind.i64 0 := inv.done 3 _ 37 rfl rfl rfl
    have q38 : a'.tmps.getD 38 undef = Value.string (str l) := inv.done 4 _ 38 rfl rfl rfl
    have q39 : a'.tmps.getD 39 undef = Value.int IntKind.i64 (LS : Int) := inv.done 5 _ 39 rfl rfl rfl
    have q40 : a'.tmps.getD 40 undef = Value.int IntKind.i64 0 := inv.done 6 _ 40 rfl rfl rfl
    have q41 : a'.tmps.getD 41 undef = Value.bool true := inv.done 7 _ 41 rfl rfl rfl
    have q42 : a'.tmps.getD 42 undef = Value.bool true := inv.done 8 _ 42 rfl rfl rfl
    have q43 : a'.tmps.getD 43 undef = Value.string (str C) := inv.done 9 _ 43 rfl rfl rfl
    have q44 : a'.tmps.getD 44 undef = Value.int IntKind.i64 0 := inv.done 10 _ 44 rfl rfl rfl
    have q45 : a'.tmps.getD 45 undef = Value.string (str l) := inv.done 11 _ 45 rfl rfl rfl
    have q46 : a'.tmps.getD 46 undef = Value.string (str C) := inv.done 12 _ 46 rfl rfl rfl
    have q47 : a'.tmps.getD 47 undef = Value.int IntKind.i64 (C.length : Int) := inv.done 13 _ 47 rfl rfl rfl
    have q48 : a'.tmps.getD 48 undef = Value.string (str D) := inv.done 14 _ 48 rfl rfl rfl
    have q49 : a'.tmps.getD 49 undef = Value.int IntKind.i64 (LS : Int) := inv.done 15 _ 49 rfl rfl rfl
    have q50 : a'.tmps.getD 50 undef = Value.int IntKind.i64 (LS : Int) := inv.done 16 _ 50 rfl rfl rfl
    have q51 : a'.tmps.getD 51 undef = Value.string (str l) := inv.done 17 _ 51 rfl rfl rfl
    have q52 : a'.tmps.getD 52 undef = Value.int IntKind.i64 (LS : Int) := inv.done 18 _ 52 rfl rfl rfl
    have q53 : a'.tmps.getD 53 undef = Value.bool true := inv.done 19 _ 53 rfl rfl rfl
    have q54 : a'.tmps.getD 54 undef = Value.bool true := inv.done 20 _ 54 rfl rfl rfl
    have q4 : a'.tmps.getD 4 undef = Value.bool true := inv.done 21 _ 4 rfl rfl rfl
    clear inv
    simp only [List.filterMap_cons, List.filterMap_nil, Par.putAll, Act.put, List.setIfInBounds_toArray, List.set_cons_succ, List.set_cons_zero, q34, q35, q36, q37, q38, q39, q40, q41, q42, q43, q44, q45, q46, q47, q48, q49, q50, q51, q52, q53, q54, q4]
    clear q34 q35 q36 q37 q38 q39 q40 q41 q42 q43 q44 q45 q46 q47 q48 q49 q50 q51 q52 q53 q54 q4
    clear a'
    have hE := HE3.out.trans hX
    go_wp2
    go_ret
    exact ⟨rfl, hE⟩
  · by_cases hle : (LS : Int) < n
    · have HV := hid (show ((runes C).length : Int) = (LS : Int) by have := H3.out; omega)
      have HLD := hid (show ((runes D).length : Int) = 0 by have := H2.out; omega)
      have hmx : max n 0 = n := by omega
      have hmn : min n (LS : Int) = (LS : Int) := by omega
      have hwr : IntKind.i64.wrap (LS : Int) = (LS : Int) := IntWalk.i64_in _ (by omega)
      refine Par.wp_region_par (l := [_, _, _, _, _, _, _, _, _, _, _, _, _, _, _, _, _, _, _, _, _, _]) rfl Ext (Par.VL [Par.EQ (Value.string (str C)), Par.EQ (Value.int IntKind.i64 (LS : Int)), Par.EQ (Value.int IntKind.i64 n), Par.EQ (Value.int IntKind.i64 n), Par.EQ (Value.string (str l)), Par.EQ (Value.int IntKind.i64 (LS : Int)), Par.EQ (Value.int IntKind.i64 (LS : Int)), Par.EQ (Value.bool true), Par.EQ (Value.bool true), Par.EQ (Value.string (str C)), Par.EQ (Value.int IntKind.i64 (LS : Int)), Par.EQ (Value.string (str l)), Par.EQ (Value.string (str C)), Par.EQ (Value.int IntKind.i64 (C.length : Int)), Par.EQ (Value.string (str D)), Par.EQ (Value.int IntKind.i64 0), Par.EQ (Value.int IntKind.i64 (LS : Int)), Par.EQ (Value.string (str l)), Par.EQ (Value.int IntKind.i64 (LS : Int)), Par.EQ (Value.bool true), Par.EQ (Value.bool true), Par.EQ (Value.bool true)]) (by kernel_rfl) Ext.refl (fun _ _ _ h1 h2 => Ext.trans h1 h2) (Ext.draw _) (Par.VL_stab ?_) ?_ ?_
      · simp only [List.forall_mem_cons, List.not_mem_nil, false_implies, implies_true, and_true]
        refine ⟨fun _ _ _ _ h => h, fun _ _ _ _ h => h, fun _ _ _ _ h => h, fun _ _ _ _ h => h, fun _ _ _ _ h => h, fun _ _ _ _ h => h, fun _ _ _ _ h => h, fun _ _ _ _ h => h, fun _ _ _ _ h => h, fun _ _ _ _ h => h, fun _ _ _ _ h => h, fun _ _ _ _ h => h, fun _ _ _ _ h => h, fun _ _ _ _ h => h, fun _ _ _ _ h => h, fun _ _ _ _ h => h, fun _ _ _ _ h => h, fun _ _ _ _ h => h, fun _ _ _ _ h => h, fun _ _ _ _ h => h, fun _ _ _ _ h => h, fun _ _ _ _ h => h⟩
      · refine ⟨⟨fun _ _ => trivial, fun ρ w' hX hG hk => ?_⟩, ?_⟩
        · exact Par.val_of_run rfl ⟨Ext.refl _, hk.1⟩
        refine ⟨⟨fun _ _ => trivial, fun ρ w' hX hG hk => ?_⟩, ?_⟩
        · obtain ⟨k0, k1, -⟩ := hk
          have e0 := k0
          have e1 : ρ (.tmp 34) = Value.string (str C) := k1
          clear k0 k1
          refine Par.val_k fun K hK => ?_
          unfold Par.val
          refine Par.val_call Tryd.func12 (by kernel_rfl) rfl e0 ?_
          simp only [List.map_toArray, List.map_cons, List.map_nil, e1]
          refine (len_any C _ hlC).mono ?_
          rintro e w2 ⟨rfl, h2⟩
          exact ⟨_, rfl, hK _ _ ⟨h2, (congrArg (Value.int IntKind.i64) HV.out)⟩⟩
        refine ⟨⟨fun _ _ => trivial, fun ρ w' hX hG hk => ?_⟩, ?_⟩
        · exact Par.val_of_run rfl ⟨Ext.refl _, hk.1⟩
        refine ⟨⟨fun _ _ => trivial, fun ρ w' hX hG hk => ?_⟩, ?_⟩
        · obtain ⟨k0, k1, -⟩ := hk
          have e0 : ρ (.tmp 36) = Value.int IntKind.i64 n := k0
          have e1 : ρ (Operand.const (Value.int IntKind.i64 0)) = (Value.int IntKind.i64 0) := k1
          clear k0 k1
          refine Par.val_k fun K hK => ?_
          unfold Par.val
          (go_simp; exact hK _ _ ⟨Ext.refl _, rfl⟩)
        refine ⟨⟨fun _ _ => trivial, fun ρ w' hX hG hk => ?_⟩, ?_⟩
        · exact Par.val_of_run rfl ⟨Ext.refl _, hk.1⟩
        refine ⟨⟨fun _ _ => trivial, fun ρ w' hX hG hk => ?_⟩, ?_⟩
        · obtain ⟨k0, k1, -⟩ := hk
          have e0 := k0
          have e1 : ρ (.tmp 38) = Value.string (str l) := k1
          clear k0 k1
          refine Par.val_k fun K hK => ?_
          unfold Par.val
          refine Par.val_call Tryd.func12 (by kernel_rfl) rfl e0 ?_
          simp only [List.map_toArray, List.map_cons, List.map_nil, e1]
          refine (len_any l _ hll).mono ?_
          rintro e w2 ⟨rfl, h2⟩
          exact ⟨_, rfl, hK _ _ ⟨h2, (congrArg (Value.int IntKind.i64) HLS.out)⟩⟩
        refine ⟨⟨fun _ _ => trivial, fun ρ w' hX hG hk => ?_⟩, ?_⟩
        · obtain ⟨k0, k1, -⟩ := hk
          have e0 : ρ (.tmp 37) = Value.int IntKind.i64 n := k0
          have e1 : ρ (.tmp 39) = Value.int IntKind.i64 (LS : Int) := k1
          clear k0 k1
          refine Par.val_k fun K hK => ?_
          unfold Par.val
          (go_simp; exact hK _ _ ⟨Ext.refl _, rfl⟩)
        refine ⟨⟨fun _ _ => trivial, fun ρ w' hX hG hk => ?_⟩, ?_⟩
        · obtain ⟨k0, k1, -⟩ := hk
          have e0 : ρ (.tmp 35) = Value.int IntKind.i64 (LS : Int) := k0
          have e1 : ρ (.tmp 40) = Value.int IntKind.i64 (LS : Int) := k1
          clear k0 k1
          refine Par.val_k fun K hK => ?_
          unfold Par.val
          (go_simp; exact hK _ _ ⟨Ext.refl _, rfl⟩)
        refine ⟨⟨fun _ _ => trivial, fun ρ w' hX hG hk => ?_⟩, ?_⟩
        · exact Par.val_of_run rfl ⟨Ext.refl _, hk.1⟩
        refine ⟨⟨fun _ _ u hu => .inl hu, fun ρ w' hX hG hk => ?_⟩, ?_⟩
        · exact Par.val_of_run rfl ⟨Ext.refl _, hk.1⟩
        refine ⟨⟨fun _ _ u hu => .inl hu, fun ρ w' hX hG hk => ?_⟩, ?_⟩
        · obtain ⟨k0, k1, -⟩ := hk
          have e0 := k0
          have e1 : ρ (.tmp 43) = Value.string (str C) := k1
          clear k0 k1
          refine Par.val_k fun K hK => ?_
          unfold Par.val
          refine Par.val_call Tryd.func12 (by kernel_rfl) rfl e0 ?_
          simp only [List.map_toArray, List.map_cons, List.map_nil, e1]
          refine (len_any C _ hlC).mono ?_
          rintro e w2 ⟨rfl, h2⟩
          exact ⟨_, rfl, hK _ _ ⟨h2, (congrArg (Value.int IntKind.i64) HV.out)⟩⟩
        refine ⟨⟨fun _ _ u hu => .inl hu, fun ρ w' hX hG hk => ?_⟩, ?_⟩
        · exact Par.val_of_run rfl ⟨Ext.refl _, hk.1⟩
        refine ⟨⟨fun _ _ u hu => .inl hu, fun ρ w' hX hG hk => ?_⟩, ?_⟩
        · exact Par.val_of_run rfl ⟨Ext.refl _, hk.1⟩
        refine ⟨⟨fun _ _ u hu => .inl hu, fun ρ w' hX hG hk => ?_⟩, ?_⟩
        · obtain ⟨k0, -⟩ := hk
          have e0 : ρ (.tmp 46) = Value.string (str C) := k0
          clear k0
          refine Par.val_k fun K hK => ?_
          unfold Par.val
          (go_simp; exact hK _ _ ⟨Ext.refl _, rfl⟩)
        refine ⟨⟨fun _ _ u hu => .inl hu, fun ρ w' hX hG hk => ?_⟩, ?_⟩
        · obtain ⟨k0, k1, -⟩ := hk
          have e0 : ρ (.tmp 45) = Value.string (str l) := k0
          have e1 : ρ (.tmp 47) = Value.int IntKind.i64 (C.length : Int) := k1
          clear k0 k1
          refine Par.val_k fun K hK => ?_
          unfold Par.val
          (go_simp; exact hK _ _ ⟨Ext.refl _, rfl⟩)
        refine ⟨⟨fun _ _ u hu => .inl hu, fun ρ w' hX hG hk => ?_⟩, ?_⟩
        · obtain ⟨k0, k1, -⟩ := hk
          have e0 := k0
          have e1 : ρ (.tmp 48) = Value.string (str D) := k1
          clear k0 k1
          refine Par.val_k fun K hK => ?_
          unfold Par.val
          refine Par.val_call Tryd.func12 (by kernel_rfl) rfl e0 ?_
          simp only [List.map_toArray, List.map_cons, List.map_nil, e1]
          refine (len_any D _ hlD).mono ?_
          rintro e w2 ⟨rfl, h2⟩
          exact ⟨_, rfl, hK _ _ ⟨h2, (congrArg (Value.int IntKind.i64) HLD.out)⟩⟩
        refine ⟨⟨fun _ _ u hu => .inl hu, fun ρ w' hX hG hk => ?_⟩, ?_⟩
        · obtain ⟨k0, k1, -⟩ := hk
          have e0 : ρ (.tmp 44) = Value.int IntKind.i64 (LS : Int) := k0
          have e1 : ρ (.tmp 49) = Value.int IntKind.i64 0 := k1
          clear k0 k1
          refine Par.val_k fun K hK => ?_
          unfold Par.val
          (go_simp; exact hK _ _ ⟨Ext.refl _, rfl⟩)
        refine ⟨⟨fun _ _ u hu => .inl hu, fun ρ w' hX hG hk => ?_⟩, ?_⟩
        · exact Par.val_of_run rfl ⟨Ext.refl _, hk.1⟩
        refine ⟨⟨fun _ _ u hu => .inl hu, fun ρ w' hX hG hk => ?_⟩, ?_⟩
        · obtain ⟨k0, k1, -⟩ := hk
          have e0 := k0
          have e1 : ρ (.tmp 51) = Value.string (str l) := k1
          clear k0 k1
          refine Par.val_k fun K hK => ?_
          unfold Par.val
          refine Par.val_call Tryd.func12 (by kernel_rfl) rfl e0 ?_
          simp only [List.map_toArray, List.map_cons, List.map_nil, e1]
          refine (len_any l _ hll).mono ?_
          rintro e w2 ⟨rfl, h2⟩
          exact ⟨_, rfl, hK _ _ ⟨h2, (congrArg (Value.int IntKind.i64) HLS.out)⟩⟩
        refine ⟨⟨fun _ _ u hu => .inl hu, fun ρ w' hX hG hk => ?_⟩, ?_⟩
        · obtain ⟨k0, k1, -⟩ := hk
          have e0 : ρ (.tmp 50) = Value.int IntKind.i64 (LS : Int) := k0
          have e1 : ρ (.tmp 52) = Value.int IntKind.i64 (LS : Int) := k1
          clear k0 k1
          refine Par.val_k fun K hK => ?_
          unfold Par.val
          (go_simp; exact hK _ _ ⟨Ext.refl _, rfl⟩)
        refine ⟨⟨fun _ _ => trivial, fun ρ w' hX hG hk => ?_⟩, ?_⟩
        · obtain ⟨k0, k1, k2, -⟩ := hk
          have e0 : ρ (.tmp 42) = Value.bool true := k0
          have e1 : ρ (.tmp 53) = Value.bool true := k1
          have e2 : ρ (Operand.const (Value.bool false)) = (Value.bool false) := k2
          clear k0 k1 k2
          refine Par.val_k fun K hK => ?_
          unfold Par.val
          (go_simp; exact hK _ _ ⟨Ext.refl _, rfl⟩)
        refine ⟨⟨fun _ _ => trivial, fun ρ w' hX hG hk => ?_⟩, ?_⟩
        · obtain ⟨k0, -⟩ := hk
          have e0 : ρ (.tmp 54) = Value.bool true := k0
          clear k0
          refine Par.val_k fun K hK => ?_
          unfold Par.val
          (go_simp; exact hK _ _ ⟨Ext.refl _, rfl⟩)
        trivial
      intro a' w' inv
      have hX := inv.ext
      have q34 : a'.tmps.getD 34 undef = Value.string (str C) := inv.done 0 _ 34 rfl rfl rfl
      have q35 : a'.tmps.getD 35 undef = Value.int IntKind.i64 (LS : Int) := inv.done 1 _ 35 rfl rfl rfl
      have q36 : a'.tmps.getD 36 undef = Value.int IntKind.i64 n := inv.done 2 _ 36 rfl rfl rfl
      have q37 : a'.tmps.getD 37 undef = Value.int IntKind.i64 n := inv.done 3 _ 37 rfl rfl rfl
      have q38 : a'.tmps.getD 38 undef = Value.string (str l) := inv.done 4 _ 38 rfl rfl rfl
      have q39 : a'.tmps.getD 39 undef = Value.int IntKind.i64 (LS : Int) := inv.done 5 _ 39 rfl rfl rfl
      have q40 : a'.tmps.getD 40 undef = Value.int IntKind.i64 (LS : Int) := inv.done 6 _ 40 rfl rfl rfl
      have q41 : a'.tmps.getD 41 undef = Value.bool true := inv.done 7 _ 41 rfl rfl rfl
      have q42 : a'.tmps.getD 42 undef = Value.bool true := inv.done 8 _ 42 rfl rfl rfl
      have q43 : a'.tmps.getD 43 undef = Value.string (str C) := inv.done 9 _ 43 rfl rfl rfl
      have q44 : a'.tmps.getD 44 undef = Value.int IntKind.i64 (LS : Int) := inv.done 10 _ 44 rfl rfl rfl
      have q45 : a'.tmps.getD 45 undef = Value.string (str l) := inv.done 11 _ 45 rfl rfl rfl
      have q46 : a'.tmps.getD 46 undef = Value.string (str C) := inv.done 12 _ 46 rfl rfl rfl
      have q47 : a'.tmps.getD 47 undef = Value.int IntKind.i64 (C.length : Int) := inv.done 13 _ 47 rfl rfl rfl
      have q48 : a'.tmps.getD 48 undef = Value.string (str D) := inv.done 14 _ 48 rfl rfl rfl
      have q49 : a'.tmps.getD 49 undef = Value.int IntKind.i64 0 := inv.done 15 _ 49 rfl rfl rfl
      have q50 : a'.tmps.getD 50 undef = Value.int IntKind.i64 (LS : Int) := inv.done 16 _ 50 rfl rfl rfl
      have q51 : a'.tmps.getD 51 undef = Value.string (str l) := inv.done 17 _ 51 rfl rfl rfl
      have q52 : a'.tmps.getD 52 undef = Value.int IntKind.i64 (LS : Int) := inv.done 18 _ 52 rfl rfl rfl
      have q53 : a'.tmps.getD 53 undef = Value.bool true := inv.done 19 _ 53 rfl rfl rfl
      have q54 : a'.tmps.getD 54 undef = Value.bool true := inv.done 20 _ 54 rfl rfl rfl
      have q4 : a'.tmps.getD 4 undef = Value.bool true := inv.done 21 _ 4 rfl rfl rfl
      clear inv
      simp only [List.filterMap_cons, List.filterMap_nil, Par.putAll, Act.put, List.setIfInBounds_toArray, List.set_cons_succ, List.set_cons_zero, q34, q35, q36, q37, q38, q39, q40, q41, q42, q43, q44, q45, q46, q47, q48, q49, q50, q51, q52, q53, q54, q4]
      clear q34 q35 q36 q37 q38 q39 q40 q41 q42 q43 q44 q45 q46 q47 q48 q49 q50 q51 q52 q53 q54 q4
      clear a'
      have hE := HE3.out.trans hX
      go_wp2
      go_ret
      exact ⟨rfl, hE⟩
    · have HV := hid (show ((runes C).length : Int) = n by have := H3.out; omega)
      obtain ⟨LD, hLD⟩ : ∃ LD, (runes D).length = LD := ⟨_, rfl⟩
      have HLD := hid (show ((runes D).length : Int) = (LD : Int) by rw [hLD])
      have hsum : ((n + (LD : Int)) == (LS : Int)) = true := by rw [beq_iff_eq]; have := H2.out; omega
      have hld : LD ≤ 1048576 := by have := H2.out; omega
      have hnb : n ≤ 1048576 := by omega
      have hmx : max n 0 = n := by omega
      have hmn : min n (LS : Int) = n := by omega
      have hwr : IntKind.i64.wrap (n + (LD : Int)) = n + (LD : Int) := IntWalk.i64_in _ (by omega)
      clear hLD
      refine Par.wp_region_par (l := [_, _, _, _, _, _, _, _, _, _, _, _, _, _, _, _, _, _, _, _, _, _]) rfl Ext (Par.VL [Par.EQ (Value.string (str C)), Par.EQ (Value.int IntKind.i64 n), Par.EQ (Value.int IntKind.i64 n), Par.EQ (Value.int IntKind.i64 n), Par.EQ (Value.string (str l)), Par.EQ (Value.int IntKind.i64 (LS : Int)), Par.EQ (Value.int IntKind.i64 n), Par.EQ (Value.bool true), Par.EQ (Value.bool true), Par.EQ (Value.string (str C)), Par.EQ (Value.int IntKind.i64 n), Par.EQ (Value.string (str l)), Par.EQ (Value.string (str C)), Par.EQ (Value.int IntKind.i64 (C.length : Int)), Par.EQ (Value.string (str D)), Par.EQ (Value.int IntKind.i64 (LD : Int)), Par.EQ (Value.int IntKind.i64 (n + (LD : Int))), Par.EQ (Value.string (str l)), Par.EQ (Value.int IntKind.i64 (LS : Int)), Par.EQ (Value.bool true), Par.EQ (Value.bool true), Par.EQ (Value.bool true)]) (by kernel_rfl) Ext.refl (fun _ _ _ h1 h2 => Ext.trans h1 h2) (Ext.draw _) (Par.VL_stab ?_) ?_ ?_
      · simp only [List.forall_mem_cons, List.not_mem_nil, false_implies, implies_true, and_true]
        refine ⟨fun _ _ _ _ h => h, fun _ _ _ _ h => h, fun _ _ _ _ h => h, fun _ _ _ _ h => h, fun _ _ _ _ h => h, fun _ _ _ _ h => h, fun _ _ _ _ h => h, fun _ _ _ _ h => h, fun _ _ _ _ h => h, fun _ _ _ _ h => h, fun _ _ _ _ h => h, fun _ _ _ _ h => h, fun _ _ _ _ h => h, fun _ _ _ _ h => h, fun _ _ _ _ h => h, fun _ _ _ _ h => h, fun _ _ _ _ h => h, fun _ _ _ _ h => h, fun _ _ _ _ h => h, fun _ _ _ _ h => h, fun _ _ _ _ h => h, fun _ _ _ _ h => h⟩
      · refine ⟨⟨fun _ _ => trivial, fun ρ w' hX hG hk => ?_⟩, ?_⟩
        · exact Par.val_of_run rfl ⟨Ext.refl _, hk.1⟩
        refine ⟨⟨fun _ _ => trivial, fun ρ w' hX hG hk => ?_⟩, ?_⟩
        · obtain ⟨k0, k1, -⟩ := hk
          have e0 := k0
          have e1 : ρ (.tmp 34) = Value.string (str C) := k1
          clear k0 k1
          refine Par.val_k fun K hK => ?_
          unfold Par.val
          refine Par.val_call Tryd.func12 (by kernel_rfl) rfl e0 ?_
          simp only [List.map_toArray, List.map_cons, List.map_nil, e1]
          refine (len_any C _ hlC).mono ?_
          rintro e w2 ⟨rfl, h2⟩
          exact ⟨_, rfl, hK _ _ ⟨h2, (congrArg (Value.int IntKind.i64) HV.out)⟩⟩
        refine ⟨⟨fun _ _ => trivial, fun ρ w' hX hG hk => ?_⟩, ?_⟩
        · exact Par.val_of_run rfl ⟨Ext.refl _, hk.1⟩
        refine ⟨⟨fun _ _ => trivial, fun ρ w' hX hG hk => ?_⟩, ?_⟩
        · obtain ⟨k0, k1, -⟩ := hk
          have e0 : ρ (.tmp 36) = Value.int IntKind.i64 n := k0
          have e1 : ρ (Operand.const (Value.int IntKind.i64 0)) = (Value.int IntKind.i64 0) := k1
          clear k0 k1
          refine Par.val_k fun K hK => ?_
          unfold Par.val
          (go_simp; exact hK _ _ ⟨Ext.refl _, rfl⟩)
        refine ⟨⟨fun _ _ => trivial, fun ρ w' hX hG hk => ?_⟩, ?_⟩
        · exact Par.val_of_run rfl ⟨Ext.refl _, hk.1⟩
        refine ⟨⟨fun _ _ => trivial, fun ρ w' hX hG hk => ?_⟩, ?_⟩
        · obtain ⟨k0, k1, -⟩ := hk
          have e0 := k0
          have e1 : ρ (.tmp 38) = Value.string (str l) := k1
          clear k0 k1
          refine Par.val_k fun K hK => ?_
          unfold Par.val
          refine Par.val_call Tryd.func12 (by kernel_rfl) rfl e0 ?_
          simp only [List.map_toArray, List.map_cons, List.map_nil, e1]
          refine (len_any l _ hll).mono ?_
          rintro e w2 ⟨rfl, h2⟩
          exact ⟨_, rfl, hK _ _ ⟨h2, (congrArg (Value.int IntKind.i64) HLS.out)⟩⟩
        refine ⟨⟨fun _ _ => trivial, fun ρ w' hX hG hk => ?_⟩, ?_⟩
        · obtain ⟨k0, k1, -⟩ := hk
          have e0 : ρ (.tmp 37) = Value.int IntKind.i64 n := k0
          have e1 : ρ (.tmp 39) = Value.int IntKind.i64 (LS : Int) := k1
          clear k0 k1
          refine Par.val_k fun K hK => ?_
          unfold Par.val
          (go_simp; exact hK _ _ ⟨Ext.refl _, rfl⟩)
        refine ⟨⟨fun _ _ => trivial, fun ρ w' hX hG hk => ?_⟩, ?_⟩
        · obtain ⟨k0, k1, -⟩ := hk
          have e0 : ρ (.tmp 35) = Value.int IntKind.i64 n := k0
          have e1 : ρ (.tmp 40) = Value.int IntKind.i64 n := k1
          clear k0 k1
          refine Par.val_k fun K hK => ?_
          unfold Par.val
          (go_simp; exact hK _ _ ⟨Ext.refl _, rfl⟩)
        refine ⟨⟨fun _ _ => trivial, fun ρ w' hX hG hk => ?_⟩, ?_⟩
        · exact Par.val_of_run rfl ⟨Ext.refl _, hk.1⟩
        refine ⟨⟨fun _ _ u hu => .inl hu, fun ρ w' hX hG hk => ?_⟩, ?_⟩
        · exact Par.val_of_run rfl ⟨Ext.refl _, hk.1⟩
        refine ⟨⟨fun _ _ u hu => .inl hu, fun ρ w' hX hG hk => ?_⟩, ?_⟩
        · obtain ⟨k0, k1, -⟩ := hk
          have e0 := k0
          have e1 : ρ (.tmp 43) = Value.string (str C) := k1
          clear k0 k1
          refine Par.val_k fun K hK => ?_
          unfold Par.val
          refine Par.val_call Tryd.func12 (by kernel_rfl) rfl e0 ?_
          simp only [List.map_toArray, List.map_cons, List.map_nil, e1]
          refine (len_any C _ hlC).mono ?_
          rintro e w2 ⟨rfl, h2⟩
          exact ⟨_, rfl, hK _ _ ⟨h2, (congrArg (Value.int IntKind.i64) HV.out)⟩⟩
        refine ⟨⟨fun _ _ u hu => .inl hu, fun ρ w' hX hG hk => ?_⟩, ?_⟩
        · exact Par.val_of_run rfl ⟨Ext.refl _, hk.1⟩
        refine ⟨⟨fun _ _ u hu => .inl hu, fun ρ w' hX hG hk => ?_⟩, ?_⟩
        · exact Par.val_of_run rfl ⟨Ext.refl _, hk.1⟩
        refine ⟨⟨fun _ _ u hu => .inl hu, fun ρ w' hX hG hk => ?_⟩, ?_⟩
        · obtain ⟨k0, -⟩ := hk
          have e0 : ρ (.tmp 46) = Value.string (str C) := k0
          clear k0
          refine Par.val_k fun K hK => ?_
          unfold Par.val
          (go_simp; exact hK _ _ ⟨Ext.refl _, rfl⟩)
        refine ⟨⟨fun _ _ u hu => .inl hu, fun ρ w' hX hG hk => ?_⟩, ?_⟩
        · obtain ⟨k0, k1, -⟩ := hk
          have e0 : ρ (.tmp 45) = Value.string (str l) := k0
          have e1 : ρ (.tmp 47) = Value.int IntKind.i64 (C.length : Int) := k1
          clear k0 k1
          refine Par.val_k fun K hK => ?_
          unfold Par.val
          (go_simp; exact hK _ _ ⟨Ext.refl _, rfl⟩)
        refine ⟨⟨fun _ _ u hu => .inl hu, fun ρ w' hX hG hk => ?_⟩, ?_⟩
        · obtain ⟨k0, k1, -⟩ := hk
          have e0 := k0
          have e1 : ρ (.tmp 48) = Value.string (str D) := k1
          clear k0 k1
          refine Par.val_k fun K hK => ?_
          unfold Par.val
          refine Par.val_call Tryd.func12 (by kernel_rfl) rfl e0 ?_
          simp only [List.map_toArray, List.map_cons, List.map_nil, e1]
          refine (len_any D _ hlD).mono ?_
          rintro e w2 ⟨rfl, h2⟩
          exact ⟨_, rfl, hK _ _ ⟨h2, (congrArg (Value.int IntKind.i64) HLD.out)⟩⟩
        refine ⟨⟨fun _ _ u hu => .inl hu, fun ρ w' hX hG hk => ?_⟩, ?_⟩
        · obtain ⟨k0, k1, -⟩ := hk
          have e0 : ρ (.tmp 44) = Value.int IntKind.i64 n := k0
          have e1 : ρ (.tmp 49) = Value.int IntKind.i64 (LD : Int) := k1
          clear k0 k1
          refine Par.val_k fun K hK => ?_
          unfold Par.val
          (go_simp; exact hK _ _ ⟨Ext.refl _, rfl⟩)
        refine ⟨⟨fun _ _ u hu => .inl hu, fun ρ w' hX hG hk => ?_⟩, ?_⟩
        · exact Par.val_of_run rfl ⟨Ext.refl _, hk.1⟩
        refine ⟨⟨fun _ _ u hu => .inl hu, fun ρ w' hX hG hk => ?_⟩, ?_⟩
        · obtain ⟨k0, k1, -⟩ := hk
          have e0 := k0
          have e1 : ρ (.tmp 51) = Value.string (str l) := k1
          clear k0 k1
          refine Par.val_k fun K hK => ?_
          unfold Par.val
          refine Par.val_call Tryd.func12 (by kernel_rfl) rfl e0 ?_
          simp only [List.map_toArray, List.map_cons, List.map_nil, e1]
          refine (len_any l _ hll).mono ?_
          rintro e w2 ⟨rfl, h2⟩
          exact ⟨_, rfl, hK _ _ ⟨h2, (congrArg (Value.int IntKind.i64) HLS.out)⟩⟩
        refine ⟨⟨fun _ _ u hu => .inl hu, fun ρ w' hX hG hk => ?_⟩, ?_⟩
        · obtain ⟨k0, k1, -⟩ := hk
          have e0 : ρ (.tmp 50) = Value.int IntKind.i64 (n + (LD : Int)) := k0
          have e1 : ρ (.tmp 52) = Value.int IntKind.i64 (LS : Int) := k1
          clear k0 k1
          refine Par.val_k fun K hK => ?_
          unfold Par.val
          (go_simp; exact hK _ _ ⟨Ext.refl _, rfl⟩)
        refine ⟨⟨fun _ _ => trivial, fun ρ w' hX hG hk => ?_⟩, ?_⟩
        · obtain ⟨k0, k1, k2, -⟩ := hk
          have e0 : ρ (.tmp 42) = Value.bool true := k0
          have e1 : ρ (.tmp 53) = Value.bool true := k1
          have e2 : ρ (Operand.const (Value.bool false)) = (Value.bool false) := k2
          clear k0 k1 k2
          refine Par.val_k fun K hK => ?_
          unfold Par.val
          (go_simp; exact hK _ _ ⟨Ext.refl _, rfl⟩)
        refine ⟨⟨fun _ _ => trivial, fun ρ w' hX hG hk => ?_⟩, ?_⟩
        · obtain ⟨k0, -⟩ := hk
          have e0 : ρ (.tmp 54) = Value.bool true := k0
          clear k0
          refine Par.val_k fun K hK => ?_
          unfold Par.val
          (go_simp; exact hK _ _ ⟨Ext.refl _, rfl⟩)
        trivial
      intro a' w' inv
      have hX := inv.ext
      have q34 : a'.tmps.getD 34 undef = Value.string (str C) := inv.done 0 _ 34 rfl rfl rfl
      have q35 : a'.tmps.getD 35 undef = Value.int IntKind.i64 n := inv.done 1 _ 35 rfl rfl rfl
      have q36 : a'.tmps.getD 36 undef = Value.int IntKind.i64 n := inv.done 2 _ 36 rfl rfl rfl
      have q37 : a'.tmps.getD 37 undef = Value.int IntKind.i64 n := inv.done 3 _ 37 rfl rfl rfl
      have q38 : a'.tmps.getD 38 undef = Value.string (str l) := inv.done 4 _ 38 rfl rfl rfl
      have q39 : a'.tmps.getD 39 undef = Value.int IntKind.i64 (LS : Int) := inv.done 5 _ 39 rfl rfl rfl
      have q40 : a'.tmps.getD 40 undef = Value.int IntKind.i64 n := inv.done 6 _ 40 rfl rfl rfl
      have q41 : a'.tmps.getD 41 undef = Value.bool true := inv.done 7 _ 41 rfl rfl rfl
      have q42 : a'.tmps.getD 42 undef = Value.bool true := inv.done 8 _ 42 rfl rfl rfl
      have q43 : a'.tmps.getD 43 undef = Value.string (str C) := inv.done 9 _ 43 rfl rfl rfl
      have q44 : a'.tmps.getD 44 undef = Value.int IntKind.i64 n := inv.done 10 _ 44 rfl rfl rfl
      have q45 : a'.tmps.getD 45 undef = Value.string (str l) := inv.done 11 _ 45 rfl rfl rfl
      have q46 : a'.tmps.getD 46 undef = Value.string (str C) := inv.done 12 _ 46 rfl rfl rfl
      have q47 : a'.tmps.getD 47 undef = Value.int IntKind.i64 (C.length : Int) := inv.done 13 _ 47 rfl rfl rfl
      have q48 : a'.tmps.getD 48 undef = Value.string (str D) := inv.done 14 _ 48 rfl rfl rfl
      have q49 : a'.tmps.getD 49 undef = Value.int IntKind.i64 (LD : Int) := inv.done 15 _ 49 rfl rfl rfl
      have q50 : a'.tmps.getD 50 undef = Value.int IntKind.i64 (n + (LD : Int)) := inv.done 16 _ 50 rfl rfl rfl
      have q51 : a'.tmps.getD 51 undef = Value.string (str l) := inv.done 17 _ 51 rfl rfl rfl
      have q52 : a'.tmps.getD 52 undef = Value.int IntKind.i64 (LS : Int) := inv.done 18 _ 52 rfl rfl rfl
      have q53 : a'.tmps.getD 53 undef = Value.bool true := inv.done 19 _ 53 rfl rfl rfl
      have q54 : a'.tmps.getD 54 undef = Value.bool true := inv.done 20 _ 54 rfl rfl rfl
      have q4 : a'.tmps.getD 4 undef = Value.bool true := inv.done 21 _ 4 rfl rfl rfl
      clear inv
      simp only [List.filterMap_cons, List.filterMap_nil, Par.putAll, Act.put, List.setIfInBounds_toArray, List.set_cons_succ, List.set_cons_zero, q34, q35, q36, q37, q38, q39, q40, q41, q42, q43, q44, q45, q46, q47, q48, q49, q50, q51, q52, q53, q54, q4]
      clear q34 q35 q36 q37 q38 q39 q40 q41 q42 q43 q44 q45 q46 q47 q48 q49 q50 q51 q52 q53 q54 q4
      clear a'
      have hE := HE3.out.trans hX
      go_wp2
      go_ret
      exact ⟨rfl, hE⟩
end Go.Proofs.YtakhanlnfoajcaaDoor
