/- The statements of layer 1: awake, SumParts, SumTurned, SumTells. -/
import Derived.Test.YtdfeblobghdfhaaSumC
import Derived.Test.YtdfeblobghdfhaaRef01B
import Derived.Lib.SlBytesConst
namespace Go.Proofs.Ytdfeblobghdfhaa
open Go.RowKit Go.Tum Go.Tum.Crc

set_option maxRecDepth 100000 in
set_option maxHeartbeats 1000000 in
theorem awake_any (w : World) : Calls Try.prog 7 #[] w fun e w' => e = .returned (.bool true) ∧ Ext w w' := by
  have hS : isPut (Crc.put [1, 2]) = true := isPut_put _
  have hC : Crc.cut (Crc.put [1, 2]) = [1, 2] := cut_put _
  have hN : isPut [1, 2, 3, 4, 5] = false := by decide +kernel
  have hO : Crc.sum [49, 50, 51, 52, 53, 54, 55, 56, 57] = 3808858755 := by decide +kernel
  have hT : (tabArr 256)[1]? = some (.int .u32 4067132163) := by
    rw [tabArr_get (by omega) (by omega)]
    rw [show tab 1 = 4067132163 by decide +kernel]; rfl
  have HS := hid hS
  have HC := hid hC
  have HN := hid hN
  have HO := hid hO
  have HT := hid hT
  clear hS hC hN hO hT
  have hcv := fun (w : World) (C : Array Value) (n c : Nat) => Lib.run_convert_bytes_const (P := Try.prog) w 23 5 C n c Try.underlying23 Try.underlying5
  go_enter Try.func7, Try.ntmps7
  go_wp2_with fail
  refine (put_any _ [1, 2] _ (own_lit w 0 5 _ _ rfl 2 rfl (Nat.zero_le _) (by simp [maxLen])).byt (by simp)).mono ?_
  rintro e w1 ⟨r, rfl, hr1, hw1⟩
  go_wp2_with fail
  refine (cut_any _ _ _ hr1.byt (by simp [put_length])).mono ?_
  rintro e w2 ⟨r2, rfl, hr2, hw2⟩
  obtain ⟨ao2, cap2, rfl, hle2, hm2, hnn2, hcell2⟩ := hr2.byt.open
  rw [HC.out] at hcell2 hle2 hr2 ⊢
  obtain ⟨a2, rfl⟩ := hnn2 (by simp at hle2; omega)
  have hc2 := hcell2 a2 rfl 1 (by simp)
  rw [HS.out]
  go_wp2_with fail
  refine (cut_any _ [1, 2, 3, 4, 5] _ (own_lit w2 0 5 _ _ rfl 5 rfl (Nat.zero_le _) (by simp [maxLen])).byt (by simp)).mono ?_
  rintro e w3 ⟨r3, rfl, hr3, hw3⟩
  rw [HN.out]
  go_wp2_with fail
  refine (of_any _ [49, 50, 51, 52, 53, 54, 55, 56, 57] _ (byt_lit w3 5 _ _ _ rfl 9 rfl (by simp [maxLen]))).mono ?_
  rintro e w4 ⟨rfl, hw4⟩
  have hE : Ext w w4 := (((((Ext.alloc w _).trans hw1).trans hw2).trans ((Ext.alloc w2 _).trans hw3)).trans (Ext.alloc w3 _)).trans hw4
  have hc4 : w4.cell? ⟨a2.block, a2.off + 1, none⟩ = some (.int .u8 2) := by
    have := (((Ext.alloc w2 _).trans hw3).trans ((Ext.alloc w3 _).trans hw4)).cell hc2
    exact this
  have HC4 := hid hc4
  have HE := hid hE
  rw [HO.out]
  clear hE hcell2 hcv
  have hidx : ∀ w, (Instr.index 31 (.agg (tabArr 256)) (.int .i64 1)).run Try.prog w = .ok (.int .u32 4067132163) w := fun w => by
    have e : (Instr.index 31 (.agg (tabArr 256)) (.int .i64 1)).run Try.prog w = .ok (.int .u32 ((tab 1 : Nat) : Int)) w := by kernel_rfl
    rw [e, show tab 1 = 4067132163 by decide +kernel]; rfl
  go_wp2_with fail
  refine (table_any _).mono ?_
  rintro e w5 ⟨rfl, hw5⟩
  go_wp2_with fail
  go_ret
  exact ⟨rfl, HE.out.trans hw5⟩

theorem sumParts_law (u v : Value) (l m : List UInt8) (w : World) (hb : Byt w u l) (hc : Byt w v m) :
    Calls Try.prog 4 #[u, v] w fun e w' => e = .returned (.bool true) ∧ Ext w w' := by
  obtain ⟨ao, cap, rfl, hle, hm, hnn, hcell⟩ := hb.open
  obtain ⟨bo, cbp, rfl, hle2, hm2, hnn2, hcell2⟩ := hc.open
  have HB := hid hb
  have HC := hid hc
  clear hb hc hcell hcell2 hnn hnn2
  by_cases h1 : 600 < l.length
  · have hd : decide (600 < (l.length : Int)) = true := by simp; omega
    go_enter Try.func4, Try.ntmps4
    go_wp2_with (go_at_call 7; refine (awake_any _).mono ?_; rintro e w1 ⟨rfl, hw1⟩)
    go_ret
    exact ⟨rfl, hw1⟩
  by_cases h2 : 600 < m.length
  · have hd : decide (600 < (l.length : Int)) = false := by simp; omega
    have hd2 : decide (600 < (m.length : Int)) = true := by simp; omega
    go_enter Try.func4, Try.ntmps4
    go_wp2_with (go_at_call 7; refine (awake_any _).mono ?_; rintro e w1 ⟨rfl, hw1⟩)
    go_ret
    exact ⟨rfl, hw1⟩
  have hd : decide (600 < (l.length : Int)) = false := by simp; omega
  have hd2 : decide (600 < (m.length : Int)) = false := by simp; omega
  have hmm : Crc.more (Crc.sum l) m = Crc.sum (l ++ m) := more_more 0 (by omega) l m
  have HMM := hid hmm
  clear hmm
  go_enter Try.func4, Try.ntmps4
  go_wp2_with (first
    | (go_at_call 7; refine (awake_any _).mono ?_; rintro e w1 ⟨rfl, hw1⟩)
    | (at_builtin; refine wpList_append_byt rfl (.tmp 18) (.tmp 19) 23 rfl w1.heap.size 5 Try.underlying23 info5 rfl (own_lit w1 _ _ [] _ rfl 0 rfl (Nat.le_refl _) (by simp [maxLen])) rfl (HB.out.ext (hw1.trans (Ext.alloc _ _))) l.length (by simp) (by omega) (by simp) ?_; intro ao2 cap2 w2 hown2 hg2 hb2; have hE2 : Ext w1 w2 := (Ext.alloc _ _).below hb2)
    | (at_builtin; refine wpList_append_byt rfl (.tmp 20) (.tmp 21) 23 rfl w1.heap.size 5 Try.underlying23 info5 rfl hown2 rfl (HC.out.ext (hw1.trans hE2)) (l.length + m.length) (by simp) (by omega) hE2.size ?_; intro ao3 cap3 w3 hown3 hg3 hb3; have hE3 : Ext w w3 := hw1.trans (hE2.below hb3)))
  have hall : Byt w3 (.slice ao3 (l.length + m.length) cap3) (l ++ m) := by simpa using hown3.byt
  have HALL := hid hall
  have HE3 := hid hE3
  clear hall hE3 hown3 hown2 hg2 hg3 hb2 hb3 hE2
  refine (put_any _ _ _ HALL.out (by simp; omega)).mono ?_
  rintro e w4 ⟨r4, rfl, hr4, hw4⟩
  go_wp2_with fail
  refine (cut_any _ _ _ hr4.byt (by simp [put_length]; omega)).mono ?_
  rintro e w5 ⟨r5, rfl, hr5, hw5⟩
  have hp5 := isPut_put (l ++ m)
  rw [hp5]
  have hc5 := cut_put (l ++ m)
  rw [hc5] at hr5
  have HR5 := hid hr5
  have HW5 : Hid (Ext w3 w5) := hid (hw4.trans hw5)
  clear hp5 hc5 hr5 hr4 hw4 hw5
  go_wp2_with fail
  refine (of_any _ l _ ((HB.out.ext HE3.out).ext HW5.out)).mono ?_
  rintro e w6 ⟨rfl, hw6⟩
  go_wp2_with fail
  refine (more_any _ (Crc.sum l) rfl (more_lt 0 l) _ m _ (((HC.out.ext HE3.out).ext HW5.out).ext hw6)).mono ?_
  rintro e w7 ⟨rfl, hw7⟩
  rw [HMM.out]
  go_wp2_with fail
  refine (of_any _ (l ++ m) _ ((HALL.out.ext HW5.out).ext (hw6.trans hw7))).mono ?_
  rintro e w8 ⟨rfl, hw8⟩
  go_wp2_with fail
  refine (rsame_any _ _ (l ++ m) (l ++ m) _ (HR5.out.byt.ext (hw6.trans (hw7.trans hw8))) ((HALL.out.ext HW5.out).ext (hw6.trans (hw7.trans hw8)))).mono ?_
  rintro e w9 ⟨rfl, hw9⟩
  rw [beq_self_eq_true]
  go_wp2_with fail
  refine (put_any _ (l ++ m) _ ((HALL.out.ext HW5.out).ext (hw6.trans (hw7.trans (hw8.trans hw9)))) (by simp; omega)).mono ?_
  rintro e w10 ⟨r10, rfl, hr10, hw10⟩
  obtain ⟨ao10, cap10, rfl, hle10, hm10, -, -⟩ := hr10.byt.open
  have hpl : (Crc.put (l ++ m)).length = l.length + m.length + 4 := by simp [put_length]
  rw [hpl]
  clear hr10 hle10 hpl
  go_wp2_with fail
  go_ret
  exact ⟨rfl, HE3.out.trans (HW5.out.trans (hw6.trans (hw7.trans (hw8.trans (hw9.trans hw10)))))⟩

theorem sumTurned_law (u : Value) (l : List UInt8) (at_ : Int) (x : Int) (t : Nat) (hx : x = t) (ht : t < 4294967296) (ha : -9223372036854775808 ≤ at_) (ha2 : at_ ≤ 9223372036854775807) (w : World) (hb : Byt w u l) :
    Calls Try.prog 5 #[u, .int .i64 at_, .int .u32 x] w fun e w' => e = .returned (.bool true) ∧ Ext w w' := by
  subst hx
  obtain ⟨ao, cap, rfl, hle, hm, hnn, hcell⟩ := hb.open
  have HB := hid hb
  clear hb hcell hnn
  by_cases h1 : 600 < l.length
  · have hd : decide (600 < (l.length : Int)) = true := by simp; omega
    go_enter Try.func5, Try.ntmps5
    go_wp2_with (go_at_call 7; refine (awake_any _).mono ?_; rintro e w1 ⟨rfl, hw1⟩)
    go_ret
    exact ⟨rfl, hw1⟩
  have hd : decide (600 < (l.length : Int)) = false := by simp; omega
  go_enter Try.func5, Try.ntmps5
  go_wp2_with fail
  refine (awake_any _).mono ?_
  rintro e w1 ⟨rfl, hw1⟩
  go_wp2_with fail
  refine (put_any _ l _ (HB.out.ext hw1) (by omega)).mono ?_
  rintro e w2 ⟨r2, rfl, hr2, hw2⟩
  go_wp2_with fail
  refine (turn_any _ (Crc.put l) at_ _ t rfl ht ha ha2 _ hr2.byt (by simp [put_length]; omega)).mono ?_
  rintro e w3 ⟨r3, rfl, hr3, hw3⟩
  have hlen3 := turnN_length at_ t (Crc.put l) 32
  have hburst := burst (Crc.put l) at_ t (isPut_put l)
  generalize turnN at_ t (Crc.put l) 32 = q at hr3 hlen3 hburst
  have HL3 := hid hlen3
  have HBU := hid hburst
  clear hlen3 hburst
  go_wp2_with fail
  refine (cut_any _ q _ hr3.byt (by rw [HL3.out, put_length]; omega)).mono ?_
  rintro e w4 ⟨r4, rfl, hr4, hw4⟩
  have HE : Hid (Ext w w4) := hid (hw1.trans (hw2.trans (hw3.trans hw4)))
  have HE4 : Hid (Ext w w3) := hid (hw1.trans (hw2.trans hw3))
  have HR2 : Hid (Byt w4 r2 (Crc.put l)) := hid (hr2.byt.ext (hw3.trans hw4))
  have HR3 : Hid (Byt w4 r3 q) := hid (hr3.byt.ext hw4)
  have HR4 := hid hr4
  clear hw1 hw2 hw3 hw4 hr2 hr3 hr4
  by_cases hpq : Crc.put l = q
  · subst hpq
    have hc5 := cut_put l
    rw [isPut_put]
    have HR5 : Hid (Byt w4 r4 l) := hid (by have := HR4.out.byt; rwa [hc5] at this)
    clear hc5 HR4
    go_wp2_with fail
    refine (rsame_any _ _ _ _ _ HR2.out HR3.out).mono ?_
    rintro e w5 ⟨rfl, hw5⟩
    rw [beq_self_eq_true]
    go_wp2_with fail
    refine (rsame_any _ _ _ _ _ (HR5.out.ext hw5) ((HB.out.ext HE.out).ext hw5)).mono ?_
    rintro e w6 ⟨rfl, hw6⟩
    rw [beq_self_eq_true]
    go_wp2_with fail
    go_ret
    exact ⟨rfl, HE.out.trans (hw5.trans hw6)⟩
  · have hne : (Crc.put l == q) = false := beq_eq_false_iff_ne.2 hpq
    have hip := HBU.out (fun e => hpq e.symm)
    rw [hip]
    have hcq : Crc.cut q = [] := by unfold Crc.cut; rw [hip]; rfl
    have hr5 : Byt w4 r4 [] := by have := HR4.out.byt; rwa [hcq] at this
    obtain ⟨ao5, cap5, rfl, -, -, -, -⟩ := hr5.open
    have HNE := hid hne
    clear hne hip hcq HR4 hpq hr5
    go_wp2_with fail
    refine (rsame_any _ _ _ _ _ HR2.out HR3.out).mono ?_
    rintro e w5 ⟨rfl, hw5⟩
    rw [HNE.out]
    go_wp2_with fail
    go_ret
    exact ⟨rfl, HE.out.trans hw5⟩
end Go.Proofs.Ytdfeblobghdfhaa
