/- The statements of layer 2: awake, VintTells, VintBack, VintSplits, VintSizes. -/
import Derived.Test.YtbgploeklegfcaaVintR
import Derived.Test.YtbgploeklegfcaaPar
namespace Go.Proofs.Ytbgploeklegfcaa
open Go.RowKit Go.Tum Go.Tum.Vint

set_option maxRecDepth 100000 in
set_option maxHeartbeats 1000000 in
theorem awake_any (w : World) : Calls Try.prog 7 #[] w fun e w' => e = .returned (.bool true) ∧ Ext w w' := by
  have h1 : vget [172, 2, 9] = (300, 2, 0) := by decide +kernel
  have h2 : vget [128, 0] = (0, 0, 2) := by decide +kernel
  have h3 : vget [128] = (0, 0, 3) := by decide +kernel
  have h4 : vsplit [5, 172, 2] = ([5, 300], 0) := by decide +kernel
  have h4' : vsplitR [5, 172, 2] = [5, 300] := by unfold vsplitR; rw [h4]; rfl
  have h5 : vput 300 = [172, 2] := by decide +kernel
  have h6 : vsz 9223372036854775808 = 10 := by decide +kernel
  have H1 := hid h1
  have H2 := hid h2
  have H3 := hid h3
  have H4 := hid h4
  have H4' := hid h4'
  have H5 := hid h5
  have H6 := hid h6
  clear h1 h2 h3 h4 h4' h5 h6
  go_enter Try.func7, Try.ntmps7
  go_wp2_with fail
  refine (vget_any _ [172, 2, 9] _ (own_lit w 0 5 _ _ rfl 3 rfl (Nat.zero_le _) (by simp [maxLen])).byt).mono ?_
  rintro e w1 ⟨rfl, hw1⟩
  have hE1 : Ext w w1 := hw1 ▸ Ext.alloc w _
  clear hw1
  rw [H1.out]
  go_wp2_with fail
  refine (vget_any _ [128, 0] _ (own_lit w1 0 5 _ _ rfl 2 rfl (Nat.zero_le _) (by simp [maxLen])).byt).mono ?_
  rintro e w2 ⟨rfl, hw2⟩
  have hE2 : Ext w w2 := hw2 ▸ hE1.trans (Ext.alloc w1 _)
  clear hw2 hE1
  rw [H2.out]
  go_wp2_with fail
  refine (vget_any _ [128] _ (own_lit w2 0 5 _ _ rfl 1 rfl (Nat.zero_le _) (by simp [maxLen])).byt).mono ?_
  rintro e w3 ⟨rfl, hw3⟩
  have hE3 : Ext w w3 := hw3 ▸ hE2.trans (Ext.alloc w2 _)
  clear hw3 hE2
  rw [H3.out]
  go_wp2_with fail
  refine (vsplit_any _ [5, 172, 2] _ (own_lit w3 0 5 _ _ rfl 3 rfl (Nat.zero_le _) (by simp [maxLen])).byt (by simp)).mono ?_
  rintro e w4 ⟨r4, rfl, hr4, hw4⟩
  rw [H4'.out] at hr4
  rw [H4.out]
  have hE4 : Ext w w4 := hE3.trans ((Ext.alloc w3 _).trans hw4)
  have HR4 := hid hr4.vec
  clear hr4 hw4 hE3
  go_wp2_with fail
  refine (vput_any _ 300 rfl (by omega) _).mono ?_
  rintro e w5 ⟨r5, rfl, hr5, hw5⟩
  rw [H5.out] at hr5
  have hE5 := hE4.trans hw5
  have HR5 : Hid (Vec uv w5 r4 [5, 300]) := hid (HR4.out.ext hw5)
  clear hE4 hw5 HR4
  go_wp2_with fail
  refine (rsame_any _ _ [172, 2] [172, 2] _ (hr5.ext (Ext.alloc w5 _)) (own_lit w5 0 5 _ _ rfl 2 rfl (Nat.zero_le _) (by simp [maxLen])).byt).mono ?_
  rintro e w6 ⟨rfl, hw6⟩
  rw [beq_self_eq_true]
  have hE6 := hE5.trans ((Ext.alloc w5 _).trans hw6)
  have HR6 : Hid (Vec uv w6 r4 [5, 300]) := hid (HR5.out.ext ((Ext.alloc w5 _).trans hw6))
  clear hr5 hw6 hE5 HR5
  go_wp2_with fail
  refine (rsame64_any _ _ [5, 300] [5, 300] _ (HR6.out.ext (Ext.alloc w6 _)) (owv_lit w6 0 22 _ _ rfl 2 rfl (Nat.zero_le _) (by simp [maxLen])).vec).mono ?_
  rintro e w7 ⟨rfl, hw7⟩
  rw [beq_self_eq_true]
  have hE7 := hE6.trans ((Ext.alloc w6 _).trans hw7)
  clear hw7 hE6 HR6
  go_wp2_with fail
  refine (size_any _ 9223372036854775808 rfl (by omega) _).mono ?_
  rintro e w8 ⟨rfl, rfl⟩
  rw [H6.out]
  go_wp2_with fail
  go_ret
  exact ⟨rfl, hE7⟩

set_option maxRecDepth 100000 in
set_option maxHeartbeats 1000000 in
theorem vintSizes_law (x y : Int) (n m : Nat) (hx : x = n) (hn : n < 18446744073709551616) (hy : y = m) (hm : m < 18446744073709551616) (w : World) :
    Calls Try.prog 6 #[.int .u64 x, .int .u64 y] w fun e w' => e = .returned (.bool true) ∧ Ext w w' := by
  subst hx hy
  have hv := vput_vsz n (by omega)
  have hmono := vsz_mono m n
  have hl := vsz_lt n
  have hg := vsz_ge n
  have HV := hid hv
  have HG := hid hg
  have HL := hid hl
  have HM := hid hmono
  clear hv hmono hl hg
  go_enter Try.func6, Try.ntmps6
  go_wp2_with fail
  refine (awake_any _).mono ?_
  rintro e w1 ⟨rfl, hw1⟩
  by_cases hc : n ≤ m
  · have hd : decide (n ≤ m) = true := by simp; omega
    have hm2 := HM.out hc
    have hd2 : decide (vsz m < vsz n) = false := by simp; omega
    clear hm2 hc
    go_wp2_with fail
    refine (size_any _ n rfl hn _).mono ?_
    rintro e w2 ⟨rfl, rfl⟩
    go_wp2_with fail
    refine (size_any _ m rfl hm _).mono ?_
    rintro e w3 ⟨rfl, rfl⟩
    go_wp2_with fail
    refine (size_any _ n rfl hn _).mono ?_
    rintro e w4 ⟨rfl, rfl⟩
    go_wp2_with fail
    refine (vput_any _ n rfl hn _).mono ?_
    rintro e w2 ⟨r2, rfl, hr2, hw2⟩
    obtain ⟨ao, cap, rfl, hle, hcm, -, -⟩ := hr2.open
    rw [HV.out] at hr2 hle ⊢
    have hE := hw1.trans hw2
    have hez : ((vsz n : Int) != (vsz n : Int)) = false := by simp
    clear hr2 hw1 hw2
    by_cases h128 : n < 128
    · have hd3 : decide ((n : Int) < 128) = true := by simp; omega
      have hl := HL.out h128
      rw [hl] at hez
      go_wp2_with fail
      refine (size_any _ n rfl hn _).mono ?_
      rintro e w3 ⟨rfl, rfl⟩
      rw [hl]
      go_wp2_with fail
      go_ret
      exact ⟨rfl, hE⟩
    · have hd3 : decide ((n : Int) < 128) = false := by simp; omega
      have hd4 : decide ((128 : Int) ≤ (n : Int)) = true := by simp; omega
      have hg := hid (HG.out (by omega))
      clear h128
      go_wp2_with fail
      refine (size_any _ n rfl hn _).mono ?_
      rintro e w3 ⟨rfl, rfl⟩
      go_wp2_with fail
      refine (size_any _ (n / 128) (by omega) (by omega) _).mono ?_
      rintro e w4 ⟨rfl, rfl⟩
      have hb : vsz (n / 128) ≤ 100 := by
        have := vputF_len 9 n
        have h2 := HV.out
        unfold vput at h2
        have h3 := hg.out
        omega
      rw [hg.out]
      go_wp2_with fail
      go_ret
      exact ⟨rfl, hE⟩
  · have hd : decide (n ≤ m) = false := by simp; omega
    clear hc
    go_wp2_with fail
    refine (size_any _ n rfl hn _).mono ?_
    rintro e w2 ⟨rfl, rfl⟩
    go_wp2_with fail
    refine (vput_any _ n rfl hn _).mono ?_
    rintro e w2 ⟨r2, rfl, hr2, hw2⟩
    obtain ⟨ao, cap, rfl, hle, hcm, -, -⟩ := hr2.open
    rw [HV.out] at hr2 hle ⊢
    have hE := hw1.trans hw2
    have hez : ((vsz n : Int) != (vsz n : Int)) = false := by simp
    clear hr2 hw1 hw2
    by_cases h128 : n < 128
    · have hd3 : decide ((n : Int) < 128) = true := by simp; omega
      have hl := HL.out h128
      rw [hl] at hez
      go_wp2_with fail
      refine (size_any _ n rfl hn _).mono ?_
      rintro e w3 ⟨rfl, rfl⟩
      rw [hl]
      go_wp2_with fail
      go_ret
      exact ⟨rfl, hE⟩
    · have hd3 : decide ((n : Int) < 128) = false := by simp; omega
      have hd4 : decide ((128 : Int) ≤ (n : Int)) = true := by simp; omega
      have hg := hid (HG.out (by omega))
      clear h128
      go_wp2_with fail
      refine (size_any _ n rfl hn _).mono ?_
      rintro e w3 ⟨rfl, rfl⟩
      go_wp2_with fail
      refine (size_any _ (n / 128) (by omega) (by omega) _).mono ?_
      rintro e w4 ⟨rfl, rfl⟩
      have hb : vsz (n / 128) ≤ 100 := by
        have := vputF_len 9 n
        have h2 := HV.out
        unfold vput at h2
        have h3 := hg.out
        omega
      rw [hg.out]
      go_wp2_with fail
      go_ret
      exact ⟨rfl, hE⟩

set_option maxRecDepth 100000 in
set_option maxHeartbeats 1000000 in
theorem vintSplits_law (u v : Value) (l : List UInt64) (m : List UInt8) (w : World) (hb : Vec uv w u l) (hc : Byt w v m) :
    Calls Try.prog 5 #[u, v] w fun e w' => e = .returned (.bool true) ∧ Ext w w' := by
  obtain ⟨ao, cap, rfl, hle, hm, hnn, hcell⟩ := hb.open
  obtain ⟨bo, cbp, rfl, hle2, hm2, hnn2, hcell2⟩ := hc.open
  have HB := hid hb
  have HC := hid hc
  clear hb hc hcell hcell2 hnn hnn2
  by_cases h1 : 400 < l.length
  · have hd : decide (400 < (l.length : Int)) = true := by simp; omega
    go_enter Try.func5, Try.ntmps5
    go_wp2_with (go_at_call 7; refine (awake_any _).mono ?_; rintro e w1 ⟨rfl, hw1⟩)
    go_ret
    exact ⟨rfl, hw1⟩
  have hd : decide (400 < (l.length : Int)) = false := by simp; omega
  by_cases h2 : 400 < m.length
  · have hd2 : decide (400 < (m.length : Int)) = true := by simp; omega
    go_enter Try.func5, Try.ntmps5
    go_wp2_with (go_at_call 7; refine (awake_any _).mono ?_; rintro e w1 ⟨rfl, hw1⟩)
    go_ret
    exact ⟨rfl, hw1⟩
  have hd2 : decide (400 < (m.length : Int)) = false := by simp; omega
  go_enter Try.func5, Try.ntmps5
  go_wp2_with fail
  refine (awake_any _).mono ?_
  rintro e w1 ⟨rfl, hw1⟩
  go_wp2_with fail
  refine (vall_any _ l _ (HB.out.ext hw1) (by omega)).mono ?_
  rintro e w2 ⟨r2, rfl, hr2, hw2⟩
  have hvl := vall_len l
  go_wp2_with fail
  refine (vsplit_any _ _ _ hr2.byt (by omega)).mono ?_
  rintro e w3 ⟨r3, rfl, hr3, hw3⟩
  have e1 : vsplitR (vall l) = l := by unfold vsplitR; rw [vsplit_all]; rfl
  rw [e1] at hr3
  rw [vsplit_all]
  have hE3 := hw1.trans (hw2.trans hw3)
  clear hr2 hw1 hw2 hw3 e1 hvl
  go_wp2_with fail
  refine (rsame64_any _ _ l l _ hr3.vec (HB.out.ext hE3)).mono ?_
  rintro e w4 ⟨rfl, hw4⟩
  rw [beq_self_eq_true]
  have hE4 := hE3.trans hw4
  clear hr3 hw4 hE3
  go_wp2_with fail
  refine (vsplit_any _ m _ (HC.out.ext hE4) (by omega)).mono ?_
  rintro e w5 ⟨r5, rfl, hr5, hw5⟩
  have hE5 := hE4.trans hw5
  clear hE4 hw5
  by_cases he : (vsplit m).2 = 0
  · have hee : (((vsplit m).2 : Int) != 0) = false := by simp; omega
    have hee2 : (((vsplit m).2 : Int) == 0) = true := by simp; omega
    have hall := all_vsplit m.length m (Nat.le_refl _) he
    have hlen := vsplit_len m.length m (Nat.le_refl _)
    have e1 : vsplitR m = (vsplit m).1 := by unfold vsplitR; rw [if_pos he]
    rw [e1] at hr5
    have HR5 := hid hr5.vec
    have HA := hid hall
    obtain ⟨co, ccp, rfl, hle5, hm5, -, -⟩ := hr5.vec.open
    clear hall e1 he hr5
    generalize (vsplit m).1 = p at *
    generalize (vsplit m).2 = q at *
    go_wp2_with fail
    refine (vall_any _ p _ HR5.out (by omega)).mono ?_
    rintro e w6 ⟨r6, rfl, hr6, hw6⟩
    rw [HA.out] at hr6
    go_wp2_with fail
    refine (rsame_any _ _ m m _ hr6.byt (HC.out.ext (hE5.trans hw6))).mono ?_
    rintro e w7 ⟨rfl, hw7⟩
    rw [beq_self_eq_true]
    have hE7 := hE5.trans (hw6.trans hw7)
    clear hr6 hw6 hw7 hE5
    go_wp2_with fail
    go_ret
    exact ⟨rfl, hE7⟩
  · have hee : (((vsplit m).2 : Int) != 0) = true := by simp; omega
    have e1 : vsplitR m = [] := by unfold vsplitR; rw [if_neg he]
    rw [e1] at hr5
    obtain ⟨co, ccp, rfl, hle5, hm5, -, -⟩ := hr5.vec.open
    clear e1 he hr5
    generalize (vsplit m).2 = q at *
    go_wp2_with fail
    go_ret
    exact ⟨rfl, hE5⟩

set_option maxRecDepth 100000 in
set_option maxHeartbeats 1000000 in
theorem vintTells_law (x : Int) (n : Nat) (hx : x = n) (hn : n < 18446744073709551616) (u v : Value) (m : List UInt8) (l : List UInt64) (w : World) (hc : Byt w u m) (hb : Vec uv w v l) :
    Calls Try.prog 3 #[.int .u64 x, u, v] w fun e w' => e = .returned (.bool true) ∧ Ext w w' := by
  subst hx
  obtain ⟨ao, cap, rfl, hle, hm, hnn, hcell⟩ := hb.open
  obtain ⟨bo, cbp, rfl, hle2, hm2, hnn2, hcell2⟩ := hc.open
  have HB := hid hb
  have HC := hid hc
  clear hb hc hcell hcell2 hnn hnn2
  by_cases h2 : 400 < m.length
  · have hd2 : decide (400 < (m.length : Int)) = true := by simp; omega
    go_enter Try.func3, Try.ntmps3
    go_wp2_with (go_at_call 7; refine (awake_any _).mono ?_; rintro e w1 ⟨rfl, hw1⟩)
    go_ret
    exact ⟨rfl, hw1⟩
  have hd2 : decide (400 < (m.length : Int)) = false := by simp; omega
  by_cases h1 : 400 < l.length
  · have hd : decide (400 < (l.length : Int)) = true := by simp; omega
    go_enter Try.func3, Try.ntmps3
    go_wp2_with (go_at_call 7; refine (awake_any _).mono ?_; rintro e w1 ⟨rfl, hw1⟩)
    go_ret
    exact ⟨rfl, hw1⟩
  have hd : decide (400 < (l.length : Int)) = false := by simp; omega
  have hv := vput_vsz n (by omega)
  have HV := hid hv
  clear hv
  go_enter Try.func3, Try.ntmps3
  go_wp2_with fail
  refine (awake_any _).mono ?_
  rintro e w1 ⟨rfl, hw1⟩
  obtain ⟨p, q, r, hg⟩ : ∃ p q r, vget m = (p, q, r) := ⟨_, _, _, rfl⟩
  go_wp2_with fail
  refine (vget_any _ m _ (HC.out.ext hw1)).mono ?_
  rintro e w2 ⟨rfl, rfl⟩
  rw [hg]
  have HG := hid hg
  clear hg
  go_wp2_with fail
  refine (rget_any _ m _ (HC.out.ext hw1)).mono ?_
  rintro e w2 ⟨rfl, rfl⟩
  rw [HG.out]
  go_wp2_with fail
  refine (vsplit_any _ m _ (HC.out.ext hw1) (by omega)).mono ?_
  rintro e w3 ⟨r3, rfl, hr3, hw3⟩
  have hE3 := hw1.trans hw3
  clear hw1 hw3
  go_wp2_with fail
  refine (rsplit_any _ m _ (HC.out.ext hE3) (by omega)).mono ?_
  rintro e w4 ⟨r4, rfl, hr4, hw4⟩
  have hE4 := hE3.trans hw4
  have HR3 : Hid (Vec uv w4 r3 (vsplitR m)) := hid (hr3.vec.ext hw4)
  have HR4 := hid hr4.vec
  clear hE3 hw4 hr3 hr4
  generalize (vsplit m).2 = g
  go_wp2_with fail
  refine (vput_any _ n rfl hn _).mono ?_
  rintro e w5 ⟨r5, rfl, hr5, hw5⟩
  go_wp2_with fail
  refine (rput2_put _ n _ rfl hn).mono ?_
  rintro e w6 ⟨r6, rfl, hr6, hw6⟩
  go_wp2_with fail
  refine (rsame_any _ _ (vput n) (vput n) _ (hr5.ext hw6) hr6.byt).mono ?_
  rintro e w7 ⟨rfl, hw7⟩
  rw [beq_self_eq_true]
  have hE7 := hE4.trans (hw5.trans (hw6.trans hw7))
  have HR3' : Hid (Vec uv w7 r3 (vsplitR m)) := hid (HR3.out.ext (hw5.trans (hw6.trans hw7)))
  have HR4' : Hid (Vec uv w7 r4 (vsplitR m)) := hid (HR4.out.ext (hw5.trans (hw6.trans hw7)))
  clear hE4 hw5 hw6 hw7 hr5 hr6 HR3 HR4
  go_wp2_with fail
  refine (size_any _ n rfl hn _).mono ?_
  rintro e w8 ⟨rfl, rfl⟩
  go_wp2_with fail
  refine (rput2_put _ n _ rfl hn).mono ?_
  rintro e w8 ⟨r8, rfl, hr8, hw8⟩
  obtain ⟨co, ccp, rfl, hle8, hm8, -, -⟩ := hr8.byt.open
  rw [HV.out] at hle8 ⊢
  have hE8 := hE7.trans hw8
  have HR3 : Hid (Vec uv w8 r3 (vsplitR m)) := hid (HR3'.out.ext hw8)
  have HR4 : Hid (Vec uv w8 r4 (vsplitR m)) := hid (HR4'.out.ext hw8)
  clear HR3' HR4' hE7 hw8 hr8
  go_wp2_with fail
  refine (rsame64_any _ _ _ _ _ HR3.out HR4.out).mono ?_
  rintro e w9 ⟨rfl, hw9⟩
  rw [beq_self_eq_true]
  have hE9 := hE8.trans hw9
  clear hE8 hw9 HR3 HR4
  go_wp2_with fail
  refine (vall_any _ l _ (HB.out.ext hE9) (by omega)).mono ?_
  rintro e w10 ⟨r10, rfl, hr10, hw10⟩
  have hE10 := hE9.trans hw10
  clear hE9 hw10
  go_wp2_with fail
  refine (rall_any _ l _ (HB.out.ext hE10) (by omega)).mono ?_
  rintro e w11 ⟨r11, rfl, hr11, hw11⟩
  go_wp2_with fail
  refine (rsame_any _ _ _ _ _ (hr10.byt.ext hw11) hr11.byt).mono ?_
  rintro e w12 ⟨rfl, hw12⟩
  rw [beq_self_eq_true]
  have hE12 := hE10.trans (hw11.trans hw12)
  clear hE10 hw11 hw12 hr10 hr11
  go_wp2_with fail
  go_ret
  exact ⟨rfl, hE12⟩

set_option maxRecDepth 100000 in
set_option maxHeartbeats 1000000 in
theorem vintBack_law (x : Int) (n : Nat) (hx : x = n) (hn : n < 18446744073709551616) (u : Value) (m : List UInt8) (c : Int) (hc0 : -9223372036854775808 ≤ c) (hc1 : c ≤ 9223372036854775807) (w : World) (hb : Byt w u m) :
    Calls Try.prog 4 #[.int .u64 x, u, .int .i64 c] w fun e w' => e = .returned (.bool true) ∧ Ext w w' := by
  subst hx
  obtain ⟨bo, cbp, rfl, hle2, hm2, hnn2, hcell2⟩ := hb.open
  have HB := hid hb
  clear hb hcell2 hnn2
  by_cases h2 : 400 < m.length
  · have hd2 : decide (400 < (m.length : Int)) = true := by simp; omega
    go_enter Try.func4, Try.ntmps4
    go_wp2_with (go_at_call 7; refine (awake_any _).mono ?_; rintro e w1 ⟨rfl, hw1⟩)
    go_ret
    exact ⟨rfl, hw1⟩
  have hd2 : decide (400 < (m.length : Int)) = false := by simp; omega
  have hg := vget_put n (by omega) m
  have hk := vputF_len 9 n
  have hcut := vget_cut n
  have HG := hid hg
  have HCUT := hid hcut
  clear hg hcut
  go_enter Try.func4, Try.ntmps4
  go_wp2_with fail
  refine (awake_any _).mono ?_
  rintro e w1 ⟨rfl, hw1⟩
  go_wp2_with fail
  refine (vput_any _ n rfl hn _).mono ?_
  rintro e w2 ⟨r2, rfl, hr2, hw2⟩
  change 1 ≤ (vput n).length ∧ (vput n).length ≤ 10 at hk
  generalize vput n = p at *
  obtain ⟨po, cpp, rfl, hle3, hm3, -, -⟩ := hr2.open
  have hE2 := hw1.trans hw2
  have HR2 := hid hr2
  clear hr2 hw1 hw2
  obtain ⟨hk1, hk2⟩ := hk
  go_wp2_with (first
    | (at_builtin; refine wpList_append_byt rfl (.tmp 22) (.tmp 23) 23 rfl w2.heap.size 5 Try.underlying23 info8 rfl (own_lit w2 _ _ [] _ rfl 0 rfl (Nat.le_refl _) (by simp [maxLen])) rfl (HR2.out.ext (Ext.alloc _ _)) p.length (by simp) (by omega) (by simp) ?_; intro ao3 cap3 w3 hown3 hg3 hb3; have hE3 : Ext w2 w3 := (Ext.alloc _ _).below hb3)
    | (at_builtin; refine wpList_append_byt rfl (.tmp 24) (.tmp 25) 23 rfl w2.heap.size 5 Try.underlying23 info8 rfl hown3 rfl (HB.out.ext (hE2.trans hE3)) (p.length + m.length) (by simp) (by omega) hE3.size ?_; intro ao4 cap4 w4 hown4 hg4 hb4; have hE4 : Ext w2 w4 := hE3.below hb4))
  have HA : Hid (Byt w4 (.slice ao4 (p.length + m.length) cap4) (p ++ m)) := hid (by simpa using hown4.byt)
  have HR4 : Hid (Byt w4 (.slice po p.length cpp) p) := hid (HR2.out.ext hE4)
  have hEw : Ext w w4 := hE2.trans hE4
  clear hown4 hown3 hg4 hg3 hb4 hb3 hE4 hE3 HR2 hE2
  refine (vget_any _ (p ++ m) _ HA.out).mono ?_
  rintro e w5 ⟨rfl, rfl⟩
  rw [HG.out]
  have t1 : ((n : Int) != (n : Int)) = false := by simp
  have t2 : ((p.length : Int) != (p.length : Int)) = false := by simp
  have t3 : decide ((p.length : Int) < 1) = false := by simp; omega
  have t4 : decide ((10 : Int) < (p.length : Int)) = false := by simp; omega
  by_cases hneg : c < 0
  · have d1 : decide (c < 0) = true := by simpa using hneg
    clear hneg
    go_wp2_with fail
    go_ret
    exact ⟨rfl, hEw⟩
  · have d1 : decide (c < 0) = false := by simpa using hneg
    by_cases hge : (p.length : Int) ≤ c
    · have d2 : decide ((p.length : Int) ≤ c) = true := by simpa using hge
      clear hneg hge
      go_wp2_with fail
      go_ret
      exact ⟨rfl, hEw⟩
    · obtain ⟨k, rfl⟩ := Int.eq_ofNat_of_zero_le (show 0 ≤ c by omega)
      have hk : k < p.length := by omega
      have d2 : decide (p.length ≤ k) = false := by simp; omega
      have d1' : decide ((k : Int) < 0) = false := d1
      have hI : (k : Int) ≤ cpp := by omega
      have hI2 : k ≤ cpp := by omega
      have HT : Hid (Byt w4 (.slice po k cpp) (p.take k)) := hid (Vec.byt (Vec.take (f := bv) HR4.out.vec k (by omega)))
      have hc := HCUT.out k hk
      have HC := hid hc
      clear hneg hge hc d1 hk
      go_wp2_with fail
      refine (vget_any _ (p.take k) _ HT.out).mono ?_
      rintro e w6 ⟨rfl, rfl⟩
      rw [HC.out]
      go_wp2_with fail
      go_ret
      exact ⟨rfl, hEw⟩
end Go.Proofs.Ytbgploeklegfcaa
