/- The statements of layer 1: awake, SumParts, SumTurned, SumTells. -/
import Derived.Test.YtdfeblobghdfhaaSumC
import Derived.Test.YtdfeblobghdfhaaRef01B
import Derived.Lib.SlBytesConst
namespace Go.Proofs.Ytdfeblobghdfhaa
open Go.RowKit Go.Tum Go.Tum.Crc

set_option maxRecDepth 100000 in
set_option maxHeartbeats 1000000 in
theorem awake_any (w : World) : Calls Try.prog 7 #[] w fun e w' => e = .returned (.bool true) ∧ Ext w w' := by
  have hS : isPut (Crc.put [1, 2]) = true := isPut_put _
  have hC : Crc.cut (Crc.put [1, 2]) = [1, 2] := cut_put _
  have hN : isPut [1, 2, 3, 4, 5] = false := by decide +kernel
  have hO : Crc.sum [49, 50, 51, 52, 53, 54, 55, 56, 57] = 3808858755 := by decide +kernel
  have hT : (tabArr 256)[1]? = some (.int .u32 4067132163) := by
    rw [tabArr_get (by omega) (by omega)]
    rw [show tab 1 = 4067132163 by decide +kernel]; rfl
  have HS := hid hS
  have HC := hid hC
  have HN := hid hN
  have HO := hid hO
  have HT := hid hT
  clear hS hC hN hO hT
  have hcv := fun (w : World) (C : Array Value) (n c : Nat) => Lib.run_convert_bytes_const (P := Try.prog) w 23 5 C n c Try.underlying23 Try.underlying5
  go_enter Try.func7, Try.ntmps7
  go_wp2_with fail
  refine (put_any _ [1, 2] _ (own_lit w 0 5 _ _ rfl 2 rfl (Nat.zero_le _) (by simp [maxLen])).byt (by simp)).mono ?_
  rintro e w1 ⟨r, rfl, hr1, hw1⟩
  go_wp2_with fail
  refine (cut_any _ _ _ hr1.byt (by simp [put_length])).mono ?_
  rintro e w2 ⟨r2, rfl, hr2, hw2⟩
  obtain ⟨ao2, cap2, rfl, hle2, hm2, hnn2, hcell2⟩ := hr2.byt.open
  rw [HC.out] at hcell2 hle2 hr2 ⊢
  obtain ⟨a2, rfl⟩ := hnn2 (by simp at hle2; omega)
  have hc2 := hcell2 a2 rfl 1 (by simp)
  rw [HS.out]
  go_wp2_with fail
  refine (cut_any _ [1, 2, 3, 4, 5] _ (own_lit w2 0 5 _ _ rfl 5 rfl (Nat.zero_le _) (by simp [maxLen])).byt (by simp)).mono ?_
  rintro e w3 ⟨r3, rfl, hr3, hw3⟩
  rw [HN.out]
  go_wp2_with fail
  refine (of_any _ [49, 50, 51, 52, 53, 54, 55, 56, 57] _ (byt_lit w3 5 _ _ _ rfl 9 rfl (by simp [maxLen]))).mono ?_
  rintro e w4 ⟨rfl, hw4⟩
  have hE : Ext w w4 := (((((Ext.alloc w _).trans hw1).trans hw2).trans ((Ext.alloc w2 _).trans hw3)).trans (Ext.alloc w3 _)).trans hw4
  have hc4 : w4.cell? ⟨a2.block, a2.off + 1, none⟩ = some (.int .u8 2) := by
    have := (((Ext.alloc w2 _).trans hw3).trans ((Ext.alloc w3 _).trans hw4)).cell hc2
    exact this
  have HC4 := hid hc4
  have HE := hid hE
  rw [HO.out]
  clear hE hcell2 hcv
  have hidx : ∀ w, (Instr.index 31 (.agg (tabArr 256)) (.int .i64 1)).run Try.prog w = .ok (.int .u32 4067132163) w := fun w => by
    have e : (Instr.index 31 (.agg (tabArr 256)) (.int .i64 1)).run Try.prog w = .ok (.int .u32 ((tab 1 : Nat) : Int)) w := by kernel_rfl
    rw [e, show tab 1 = 4067132163 by decide +kernel]; rfl
  go_wp2_with fail
  refine (table_any _).mono ?_
  rintro e w5 ⟨rfl, hw5⟩
  go_wp2_with fail
  go_ret
  exact ⟨rfl, HE.out.trans hw5⟩

theorem sumParts_law (u v : Value) (l m : List UInt8) (w : World) (hb : Byt w u l) (hc : Byt w v m) :
    Calls Try.prog 4 #[u, v] w fun e w' => e = .returned (.bool true) ∧ Ext w w' := by
  obtain ⟨ao, cap, rfl, hle, hm, hnn, hcell⟩ := hb.open
  obtain ⟨bo, cbp, rfl, hle2, hm2, hnn2, hcell2⟩ := hc.open
  have HB := hid hb
  have HC := hid hc
  clear hb hc hcell hcell2 hnn hnn2
  by_cases h1 : 600 < l.length
  · have hd : decide (600 < (l.length : Int)) = true := by simp; omega
    go_enter Try.func4, Try.ntmps4
    go_wp2_with (go_at_call 7; refine (awake_any _).mono ?_; rintro e w1 ⟨rfl, hw1⟩)
    go_ret
    exact ⟨rfl, hw1⟩
  by_cases h2 : 600 < m.length
  · have hd : decide (600 < (l.length : Int)) = false := by simp; omega
    have hd2 : decide (600 < (m.length : Int)) = true := by simp; omega
    go_enter Try.func4, Try.ntmps4
    go_wp2_with (go_at_call 7; refine (awake_any _).mono ?_; rintro e w1 ⟨rfl, hw1⟩)
    go_ret
    exact ⟨rfl, hw1⟩
  have hd : decide (600 < (l.length : Int)) = false := by simp; omega
  have hd2 : decide (600 < (m.length : Int)) = false := by simp; omega
  have hmm : Crc.more (Crc.sum l) m = Crc.sum (l ++ m) := more_more 0 (by omega) l m
  have HMM := hid hmm
  clear hmm
  go_enter Try.func4, Try.ntmps4
  go_wp2_with (first
    | (go_at_call 7; refine (awake_any _).mono ?_; rintro e w1 ⟨rfl, hw1⟩)
    | (at_builtin; refine wpList_append_byt rfl (.tmp 18) (.tmp 19) 23 rfl w1.heap.size 5 Try.underlying23 info5 rfl (own_lit w1 _ _ [] _ rfl 0 rfl (Nat.le_refl _) (by simp [maxLen])) rfl (HB.out.ext (hw1.trans (Ext.alloc _ _))) l.length (by simp) (by omega) (by simp) ?_; intro ao2 cap2 w2 hown2 hg2 hb2; have hE2 : Ext w1 w2 := (Ext.alloc _ _).below hb2)
    | (at_builtin; refine wpList_append_byt rfl (.tmp 20) (.tmp 21) 23 rfl w1.heap.size 5 Try.underlying23 info5 rfl hown2 rfl (HC.out.ext (hw1.trans hE2)) (l.length + m.length) (by simp) (by omega) hE2.size ?_; intro ao3 cap3 w3 hown3 hg3 hb3; have hE3 : Ext w w3 := hw1.trans (hE2.below hb3)))
  have hall : Byt w3 (.slice ao3 (l.length + m.length) cap3) (l ++ m) := by simpa using hown3.byt
  have HALL := hid hall
  have HE3 := hid hE3
  clear hall hE3 hown3 hown2 hg2 hg3 hb2 hb3 hE2
  refine (put_any _ _ _ HALL.out (by simp; omega)).mono ?_
  rintro e w4 ⟨r4, rfl, hr4, hw4⟩
  go_wp2_with fail
  refine (cut_any _ _ _ hr4.byt (by simp [put_length]; omega)).mono ?_
  rintro e w5 ⟨r5, rfl, hr5, hw5⟩
  have hp5 := isPut_put (l ++ m)
  rw [hp5]
  have hc5 := cut_put (l ++ m)
  rw [hc5] at hr5
  have HR5 := hid hr5
  have HW5 : Hid (Ext w3 w5) := hid (hw4.trans hw5)
  clear hp5 hc5 hr5 hr4 hw4 hw5
  go_wp2_with fail
  refine (of_any _ l _ ((HB.out.ext HE3.out).ext HW5.out)).mono ?_
  rintro e w6 ⟨rfl, hw6⟩
  go_wp2_with fail
  refine (more_any _ (Crc.sum l) rfl (more_lt 0 l) _ m _ (((HC.out.ext HE3.out).ext HW5.out).ext hw6)).mono ?_
  rintro e w7 ⟨rfl, hw7⟩
  rw [HMM.out]
  go_wp2_with fail
  refine (of_any _ (l ++ m) _ ((HALL.out.ext HW5.out).ext (hw6.trans hw7))).mono ?_
  rintro e w8 ⟨rfl, hw8⟩
  go_wp2_with fail
  refine (rsame_any _ _ (l ++ m) (l ++ m) _ (HR5.out.byt.ext (hw6.trans (hw7.trans hw8))) ((HALL.out.ext HW5.out).ext (hw6.trans (hw7.trans hw8)))).mono ?_
  rintro e w9 ⟨rfl, hw9⟩
  rw [beq_self_eq_true]
  go_wp2_with fail
  refine (put_any _ (l ++ m) _ ((HALL.out.ext HW5.out).ext (hw6.trans (hw7.trans (hw8.trans hw9)))) (by simp; omega)).mono ?_
  rintro e w10 ⟨r10, rfl, hr10, hw10⟩
  obtain ⟨ao10, cap10, rfl, hle10, hm10, -, -⟩ := hr10.byt.open
  have hpl : (Crc.put (l ++ m)).length = l.length + m.length + 4 := by simp [put_length]
  rw [hpl]
  clear hr10 hle10 hpl
  go_wp2_with fail
  go_ret
  exact ⟨rfl, HE3.out.trans (HW5.out.trans (hw6.trans (hw7.trans (hw8.trans (hw9.trans hw10)))))⟩

theorem sumTurned_law (u : Value) (l : List UInt8) (at_ : Int) (x : Int) (t : Nat) (hx : x = t) (ht : t < 4294967296) (ha : -9223372036854775808 ≤ at_) (ha2 : at_ ≤ 9223372036854775807) (w : World) (hb : Byt w u l) :
    Calls Try.prog 5 #[u, .int .i64 at_, .int .u32 x] w fun e w' => e = .returned (.bool true) ∧ Ext w w' := by
  subst hx
  obtain ⟨ao, cap, rfl, hle, hm, hnn, hcell⟩ := hb.open
  have HB := hid hb
  clear hb hcell hnn
  by_cases h1 : 600 < l.length
  · have hd : decide (600 < (l.length : Int)) = true := by simp; omega
    go_enter Try.func5, Try.ntmps5
    go_wp2_with (go_at_call 7; refine (awake_any _).mono ?_; rintro e w1 ⟨rfl, hw1⟩)
    go_ret
    exact ⟨rfl, hw1⟩
  have hd : decide (600 < (l.length : Int)) = false := by simp; omega
  go_enter Try.func5, Try.ntmps5
  go_wp2_with fail
  refine (awake_any _).mono ?_
  rintro e w1 ⟨rfl, hw1⟩
  go_wp2_with fail
  refine (put_any _ l _ (HB.out.ext hw1) (by omega)).mono ?_
  rintro e w2 ⟨r2, rfl, hr2, hw2⟩
  go_wp2_with fail
  refine (turn_any _ (Crc.put l) at_ _ t rfl ht ha ha2 _ hr2.byt (by simp [put_length]; omega)).mono ?_
  rintro e w3 ⟨r3, rfl, hr3, hw3⟩
  have hlen3 := turnN_length at_ t (Crc.put l) 32
  have hburst := burst (Crc.put l) at_ t (isPut_put l)
  generalize turnN at_ t (Crc.put l) 32 = q at hr3 hlen3 hburst
  have HL3 := hid hlen3
  have HBU := hid hburst
  clear hlen3 hburst
  go_wp2_with fail
  refine (cut_any _ q _ hr3.byt (by rw [HL3.out, put_length]; omega)).mono ?_
  rintro e w4 ⟨r4, rfl, hr4, hw4⟩
  have HE : Hid (Ext w w4) := hid (hw1.trans (hw2.trans (hw3.trans hw4)))
  have HE4 : Hid (Ext w w3) := hid (hw1.trans (hw2.trans hw3))
  have HR2 : Hid (Byt w4 r2 (Crc.put l)) := hid (hr2.byt.ext (hw3.trans hw4))
  have HR3 : Hid (Byt w4 r3 q) := hid (hr3.byt.ext hw4)
  have HR4 := hid hr4
  clear hw1 hw2 hw3 hw4 hr2 hr3 hr4
  by_cases hpq : Crc.put l = q
  · subst hpq
    have hc5 := cut_put l
    rw [isPut_put]
    have HR5 : Hid (Byt w4 r4 l) := hid (by have := HR4.out.byt; rwa [hc5] at this)
    clear hc5 HR4
    go_wp2_with fail
    refine (rsame_any _ _ _ _ _ HR2.out HR3.out).mono ?_
    rintro e w5 ⟨rfl, hw5⟩
    rw [beq_self_eq_true]
    go_wp2_with fail
    refine (rsame_any _ _ _ _ _ (HR5.out.ext hw5) ((HB.out.ext HE.out).ext hw5)).mono ?_
    rintro e w6 ⟨rfl, hw6⟩
    rw [beq_self_eq_true]
    go_wp2_with fail
    go_ret
    exact ⟨rfl, HE.out.trans (hw5.trans hw6)⟩
  · have hne : (Crc.put l == q) = false := beq_eq_false_iff_ne.2 hpq
    have hip := HBU.out (fun e => hpq e.symm)
    rw [hip]
    have hcq : Crc.cut q = [] := by unfold Crc.cut; rw [hip]; rfl
    have hr5 : Byt w4 r4 [] := by have := HR4.out.byt; rwa [hcq] at this
    obtain ⟨ao5, cap5, rfl, -, -, -, -⟩ := hr5.open
    have HNE := hid hne
    clear hne hip hcq HR4 hpq hr5
    go_wp2_with fail
    refine (rsame_any _ _ _ _ _ HR2.out HR3.out).mono ?_
    rintro e w5 ⟨rfl, hw5⟩
    rw [HNE.out]
    go_wp2_with fail
    go_ret
    exact ⟨rfl, HE.out.trans hw5⟩

set_option maxRecDepth 100000 in
theorem tab_index (i : Nat) (h : i < 256) (k : IntKind) (w : World) : (Instr.index 31 (.agg (tabArr 256)) (.int k (i : Int))).run Try.prog w = .ok (.int .u32 (tab i : Nat)) w := by
  have h0 := tabArr_get (k := 256) h h
  have h1 : 0 ≤ (i : Int) ∧ (i : Int) < (256 : Nat) := by omega
  have hs : ∀ w, (sizeOf 22).run Try.prog w = .ok 1 w := fun _ => by kernel_rfl
  have hp : ∀ (cs : Array Value) (off : Nat) (v : Value), cs[off]? = some v → (part 22 cs off).run Try.prog w = .ok v w := fun cs off v hv => by
    have ha : (isAgg 22).run Try.prog w = .ok false w := by kernel_rfl
    unfold part
    simp only [Sem.run_bind, ha, Result.andThen_ok, Bool.false_eq_true, if_false, hv, Sem.run_pure]
  simp only [Instr.index, asIntOf, run_underlying Try.underlying31, Sem.run_bind, Sem.run_pure, Result.andThen_ok]
  rw [if_pos h1]
  simp only [Sem.run_bind, hs, Result.andThen_ok]
  exact hp _ _ _ (by simpa using h0)

set_option maxRecDepth 100000 in
set_option maxHeartbeats 2000000 in
theorem sumTells_law (x : Int) (s : Nat) (hx : x = s) (hs : s < 4294967296) (u : Value) (l : List UInt8) (w : World) (hb : Byt w u l) :
    Calls Try.prog 3 #[.int .u32 x, u] w fun e w' => e = .returned (.bool true) ∧ Ext w w' := by
  subst hx
  obtain ⟨ao, cap, rfl, hle, hm, hnn, hcell⟩ := hb.open
  have HB := hid hb
  clear hb hcell hnn
  by_cases h1 : 600 < l.length
  · have hd : decide (600 < (l.length : Int)) = true := by simp; omega
    go_enter Try.func3, Try.ntmps3
    go_wp2_with (go_at_call 7; refine (awake_any _).mono ?_; rintro e w1 ⟨rfl, hw1⟩)
    go_ret
    exact ⟨rfl, hw1⟩
  have hd : decide (600 < (l.length : Int)) = false := by simp; omega
  go_enter Try.func3, Try.ntmps3
  go_wp2_with fail
  refine (awake_any _).mono ?_
  rintro e w1 ⟨rfl, hw1⟩
  go_wp2_with fail
  refine (cut_any _ l _ (HB.out.ext hw1) (by omega)).mono ?_
  rintro e w2 ⟨r5, rfl, hr5, hw2⟩
  go_wp2_with fail
  refine (rcut_any _ l _ (HB.out.ext (hw1.trans hw2)) (by omega)).mono ?_
  rintro e w3 ⟨r7, rfl, hr7, hw3⟩
  have HE : Hid (Ext w w3) := hid (hw1.trans (hw2.trans hw3))
  have HB3 := hid (HB.out.ext HE.out)
  have HR5 := hid ((hr5.ext hw3).byt)
  have HR7 := hid hr7.byt
  clear hw1 hw2 hw3 hr5 hr7 HB
  go_wp2_with fail
  have hmod : s % 256 < 256 := Nat.mod_lt _ (by decide)
  have HTI : Hid (∀ w, (Instr.index 31 (.agg (tabArr 256)) (.int .u32 ((s : Int) % 256))).run Try.prog w = .ok (.int .u32 (tab (s % 256) : Nat)) w) := hid (tab_index (s % 256) hmod .u32)
  refine Par.wp_region_par (l := [_, _, _, _, _, _, _, _, _, _, _, _, _, _, _, _, _, _, _, _, _, _, _, _, _, _, _, _, _, _, _, _, _, _, _, _, _, _, _, _, _, _]) rfl Ext (Par.VL [Par.EQ (Value.slice ao l.length cap), Par.EQ (Value.int IntKind.u32 (Crc.sum l : Nat)), Par.EQ (Value.slice ao l.length cap), Par.EQ (Value.int IntKind.u32 (Crc.sum l : Nat)), Par.EQ (Value.bool true), Par.EQ (Value.bool true), Par.EQ (Value.int IntKind.u32 s), Par.EQ (Value.slice ao l.length cap), Par.EQ (Value.int IntKind.u32 (Crc.more s l : Nat)), Par.EQ (Value.int IntKind.u32 s), Par.EQ (Value.slice ao l.length cap), Par.EQ (Value.int IntKind.u32 (Crc.more s l : Nat)), Par.EQ (Value.bool true), Par.EQ (Value.bool true), Par.EQ (Value.bool true), Par.EQ (Value.slice ao l.length cap), (fun v w' => Byt w' v (Crc.put l)), Par.EQ (Value.slice ao l.length cap), (fun v w' => Byt w' v (Crc.put l)), Par.EQ (Value.bool true), Par.EQ (Value.bool true), Par.EQ (Value.bool true), Par.EQ (r5), Par.EQ (r7), Par.EQ (Value.bool true), Par.EQ (Value.bool true), Par.EQ (Value.bool true), Par.EQ (Value.bool (isPut l)), Par.EQ (Value.bool (isPut l)), Par.EQ (Value.bool true), Par.EQ (Value.bool true), Par.EQ (Value.bool true), Par.EQ (Value.agg (tabArr 256)), Par.EQ (Value.int IntKind.u32 s), Par.EQ (Value.int IntKind.u32 ((s % 256 : Nat) : Int)), Par.EQ (Value.int IntKind.u32 (tab (s % 256) : Nat)), Par.EQ (Value.int IntKind.u32 s), Par.EQ (Value.int IntKind.u32 ((s % 256 : Nat) : Int)), Par.EQ (Value.int IntKind.u32 (tab (s % 256) : Nat)), Par.EQ (Value.bool true), Par.EQ (Value.bool true), Par.EQ (Value.bool true)]) (by kernel_rfl) Ext.refl (fun _ _ _ h1 h2 => Ext.trans h1 h2) (Ext.draw _) (Par.VL_stab ?_) ?_ ?_
  · simp only [List.forall_mem_cons, List.not_mem_nil, false_implies, implies_true, and_true]
    refine ⟨fun _ _ _ _ h => h, fun _ _ _ _ h => h, fun _ _ _ _ h => h, fun _ _ _ _ h => h, fun _ _ _ _ h => h, fun _ _ _ _ h => h, fun _ _ _ _ h => h, fun _ _ _ _ h => h, fun _ _ _ _ h => h, fun _ _ _ _ h => h, fun _ _ _ _ h => h, fun _ _ _ _ h => h, fun _ _ _ _ h => h, fun _ _ _ _ h => h, fun _ _ _ _ h => h, fun _ _ _ _ h => h, fun _ _ _ k h => Byt.ext h k, fun _ _ _ _ h => h, fun _ _ _ k h => Byt.ext h k, fun _ _ _ _ h => h, fun _ _ _ _ h => h, fun _ _ _ _ h => h, fun _ _ _ _ h => h, fun _ _ _ _ h => h, fun _ _ _ _ h => h, fun _ _ _ _ h => h, fun _ _ _ _ h => h, fun _ _ _ _ h => h, fun _ _ _ _ h => h, fun _ _ _ _ h => h, fun _ _ _ _ h => h, fun _ _ _ _ h => h, fun _ _ _ _ h => h, fun _ _ _ _ h => h, fun _ _ _ _ h => h, fun _ _ _ _ h => h, fun _ _ _ _ h => h, fun _ _ _ _ h => h, fun _ _ _ _ h => h, fun _ _ _ _ h => h, fun _ _ _ _ h => h, fun _ _ _ _ h => h⟩
  · refine ⟨⟨fun _ _ => trivial, fun ρ w' hX hG hk => ?_⟩, ?_⟩
    · exact Par.val_of_run rfl ⟨Ext.refl _, hk.1⟩
    refine ⟨⟨fun _ _ => trivial, fun ρ w' hX hG hk => ?_⟩, ?_⟩
    · obtain ⟨k0, k1, -⟩ := hk
      have e0 := k0
      have e1 : ρ (.tmp 24) = Value.slice ao l.length cap := k1
      clear k0 k1
      refine Par.val_k fun K hK => ?_
      unfold Par.val
      refine Par.val_call Try.func10 (by kernel_rfl) rfl e0 ?_
      simp only [List.map_toArray, List.map_cons, List.map_nil, e1]
      refine (of_any _ l _ (HB3.out.ext hX)).mono ?_
      rintro e w2 ⟨rfl, h2⟩
      exact ⟨_, rfl, hK _ _ ⟨h2, rfl⟩⟩
    refine ⟨⟨fun _ _ => trivial, fun ρ w' hX hG hk => ?_⟩, ?_⟩
    · exact Par.val_of_run rfl ⟨Ext.refl _, hk.1⟩
    refine ⟨⟨fun _ _ => trivial, fun ρ w' hX hG hk => ?_⟩, ?_⟩
    · obtain ⟨k0, k1, -⟩ := hk
      have e0 := k0
      have e1 : ρ (.tmp 26) = Value.slice ao l.length cap := k1
      clear k0 k1
      refine Par.val_k fun K hK => ?_
      unfold Par.val
      refine Par.val_call Try.func11 (by kernel_rfl) rfl e0 ?_
      simp only [List.map_toArray, List.map_cons, List.map_nil, e1]
      refine (rof_any _ l _ (HB3.out.ext hX)).mono ?_
      rintro e w2 ⟨rfl, rfl⟩
      exact ⟨_, rfl, hK _ _ ⟨Ext.refl _, rfl⟩⟩
    refine ⟨⟨fun _ _ => trivial, fun ρ w' hX hG hk => ?_⟩, ?_⟩
    · obtain ⟨k0, k1, -⟩ := hk
      have e0 : ρ (.tmp 25) = Value.int IntKind.u32 (Crc.sum l : Nat) := k0
      have e1 : ρ (.tmp 27) = Value.int IntKind.u32 (Crc.sum l : Nat) := k1
      clear k0 k1
      refine Par.val_k fun K hK => ?_
      unfold Par.val
      (go_simp; exact hK _ _ ⟨Ext.refl _, rfl⟩)
    refine ⟨⟨fun _ _ => trivial, fun ρ w' hX hG hk => ?_⟩, ?_⟩
    · exact Par.val_of_run rfl ⟨Ext.refl _, hk.1⟩
    refine ⟨⟨fun _ _ u hu => .inl hu, fun ρ w' hX hG hk => ?_⟩, ?_⟩
    · exact Par.val_of_run rfl ⟨Ext.refl _, hk.1⟩
    refine ⟨⟨fun _ _ u hu => .inl hu, fun ρ w' hX hG hk => ?_⟩, ?_⟩
    · exact Par.val_of_run rfl ⟨Ext.refl _, hk.1⟩
    refine ⟨⟨fun _ _ u hu => .inl hu, fun ρ w' hX hG hk => ?_⟩, ?_⟩
    · obtain ⟨k0, k1, k2, -⟩ := hk
      have e0 := k0
      have e1 : ρ (.tmp 30) = Value.int IntKind.u32 s := k1
      have e2 : ρ (.tmp 31) = Value.slice ao l.length cap := k2
      clear k0 k1 k2
      refine Par.val_k fun K hK => ?_
      unfold Par.val
      refine Par.val_call Try.func12 (by kernel_rfl) rfl e0 ?_
      simp only [List.map_toArray, List.map_cons, List.map_nil, e1, e2]
      refine (more_any _ s rfl hs _ l _ (HB3.out.ext hX)).mono ?_
      rintro e w2 ⟨rfl, h2⟩
      exact ⟨_, rfl, hK _ _ ⟨h2, rfl⟩⟩
    refine ⟨⟨fun _ _ u hu => .inl hu, fun ρ w' hX hG hk => ?_⟩, ?_⟩
    · exact Par.val_of_run rfl ⟨Ext.refl _, hk.1⟩
    refine ⟨⟨fun _ _ u hu => .inl hu, fun ρ w' hX hG hk => ?_⟩, ?_⟩
    · exact Par.val_of_run rfl ⟨Ext.refl _, hk.1⟩
    refine ⟨⟨fun _ _ u hu => .inl hu, fun ρ w' hX hG hk => ?_⟩, ?_⟩
    · obtain ⟨k0, k1, k2, -⟩ := hk
      have e0 := k0
      have e1 : ρ (.tmp 33) = Value.int IntKind.u32 s := k1
      have e2 : ρ (.tmp 34) = Value.slice ao l.length cap := k2
      clear k0 k1 k2
      refine Par.val_k fun K hK => ?_
      unfold Par.val
      refine Par.val_call Try.func13 (by kernel_rfl) rfl e0 ?_
      simp only [List.map_toArray, List.map_cons, List.map_nil, e1, e2]
      refine (rmore_any _ s rfl hs _ l _ (HB3.out.ext hX)).mono ?_
      rintro e w2 ⟨rfl, rfl⟩
      exact ⟨_, rfl, hK _ _ ⟨Ext.refl _, rfl⟩⟩
    refine ⟨⟨fun _ _ u hu => .inl hu, fun ρ w' hX hG hk => ?_⟩, ?_⟩
    · obtain ⟨k0, k1, -⟩ := hk
      have e0 : ρ (.tmp 32) = Value.int IntKind.u32 (Crc.more s l : Nat) := k0
      have e1 : ρ (.tmp 35) = Value.int IntKind.u32 (Crc.more s l : Nat) := k1
      clear k0 k1
      refine Par.val_k fun K hK => ?_
      unfold Par.val
      (go_simp; exact hK _ _ ⟨Ext.refl _, rfl⟩)
    refine ⟨⟨fun _ _ => trivial, fun ρ w' hX hG hk => ?_⟩, ?_⟩
    · obtain ⟨k0, k1, k2, -⟩ := hk
      have e0 : ρ (.tmp 29) = Value.bool true := k0
      have e1 : ρ (.tmp 36) = Value.bool true := k1
      have e2 : ρ (Operand.const (Value.bool false)) = (Value.bool false) := k2
      clear k0 k1 k2
      refine Par.val_k fun K hK => ?_
      unfold Par.val
      (go_simp; exact hK _ _ ⟨Ext.refl _, rfl⟩)
    refine ⟨⟨fun _ _ => trivial, fun ρ w' hX hG hk => ?_⟩, ?_⟩
    · exact Par.val_of_run rfl ⟨Ext.refl _, hk.1⟩
    refine ⟨⟨fun _ _ u hu => .inl hu, fun ρ w' hX hG hk => ?_⟩, ?_⟩
    · exact Par.val_of_run rfl ⟨Ext.refl _, hk.1⟩
    refine ⟨⟨fun _ _ u hu => .inl hu, fun ρ w' hX hG hk => ?_⟩, ?_⟩
    · obtain ⟨k0, k1, -⟩ := hk
      have e0 := k0
      have e1 : ρ (.tmp 39) = Value.slice ao l.length cap := k1
      clear k0 k1
      refine Par.val_k fun K hK => ?_
      unfold Par.val
      refine Par.val_call Try.func15 (by kernel_rfl) rfl e0 ?_
      simp only [List.map_toArray, List.map_cons, List.map_nil, e1]
      refine (put_any _ l _ (HB3.out.ext hX) (by omega)).mono ?_
      rintro e w2 ⟨r, rfl, hr, h2⟩
      exact ⟨_, rfl, hK _ _ ⟨h2, hr.byt⟩⟩
    refine ⟨⟨fun _ _ u hu => .inl hu, fun ρ w' hX hG hk => ?_⟩, ?_⟩
    · exact Par.val_of_run rfl ⟨Ext.refl _, hk.1⟩
    refine ⟨⟨fun _ _ u hu => .inl hu, fun ρ w' hX hG hk => ?_⟩, ?_⟩
    · obtain ⟨k0, k1, -⟩ := hk
      have e0 := k0
      have e1 : ρ (.tmp 41) = Value.slice ao l.length cap := k1
      clear k0 k1
      refine Par.val_k fun K hK => ?_
      unfold Par.val
      refine Par.val_call Try.func16 (by kernel_rfl) rfl e0 ?_
      simp only [List.map_toArray, List.map_cons, List.map_nil, e1]
      refine (rput_any _ l _ (HB3.out.ext hX) (by omega)).mono ?_
      rintro e w2 ⟨r, rfl, hr, h2⟩
      exact ⟨_, rfl, hK _ _ ⟨h2, hr.byt⟩⟩
    refine ⟨⟨fun _ _ u hu => .inl hu, fun ρ w' hX hG hk => ?_⟩, ?_⟩
    · obtain ⟨k0, k1, k2, -⟩ := hk
      have e0 := k0
      have e1 : (fun v w' => Byt w' v (Crc.put l)) (ρ (.tmp 40)) w' := k1
      have e2 : (fun v w' => Byt w' v (Crc.put l)) (ρ (.tmp 42)) w' := k2
      clear k0 k1 k2
      refine Par.val_k fun K hK => ?_
      unfold Par.val
      refine Par.val_call Try.func14 (by kernel_rfl) rfl e0 ?_
      simp only [List.map_toArray, List.map_cons, List.map_nil]
      refine (rsame_any _ _ _ _ _ e1 e2).mono ?_
      rintro e w2 ⟨rfl, h2⟩
      exact ⟨_, rfl, hK _ _ ⟨h2, (by rw [beq_self_eq_true]; rfl)⟩⟩
    refine ⟨⟨fun _ _ => trivial, fun ρ w' hX hG hk => ?_⟩, ?_⟩
    · obtain ⟨k0, k1, k2, -⟩ := hk
      have e0 : ρ (.tmp 38) = Value.bool true := k0
      have e1 : ρ (.tmp 43) = Value.bool true := k1
      have e2 : ρ (Operand.const (Value.bool false)) = (Value.bool false) := k2
      clear k0 k1 k2
      refine Par.val_k fun K hK => ?_
      unfold Par.val
      (go_simp; exact hK _ _ ⟨Ext.refl _, rfl⟩)
    refine ⟨⟨fun _ _ => trivial, fun ρ w' hX hG hk => ?_⟩, ?_⟩
    · exact Par.val_of_run rfl ⟨Ext.refl _, hk.1⟩
    refine ⟨⟨fun _ _ u hu => .inl hu, fun ρ w' hX hG hk => ?_⟩, ?_⟩
    · exact Par.val_of_run rfl ⟨Ext.refl _, hk.1⟩
    refine ⟨⟨fun _ _ u hu => .inl hu, fun ρ w' hX hG hk => ?_⟩, ?_⟩
    · exact Par.val_of_run rfl ⟨Ext.refl _, hk.1⟩
    refine ⟨⟨fun _ _ u hu => .inl hu, fun ρ w' hX hG hk => ?_⟩, ?_⟩
    · obtain ⟨k0, k1, k2, -⟩ := hk
      have e0 := k0
      have e1 : ρ (.tmp 46) = r5 := k1
      have e2 : ρ (.tmp 47) = r7 := k2
      clear k0 k1 k2
      refine Par.val_k fun K hK => ?_
      unfold Par.val
      refine Par.val_call Try.func14 (by kernel_rfl) rfl e0 ?_
      simp only [List.map_toArray, List.map_cons, List.map_nil, e1, e2]
      refine (rsame_any _ _ _ _ _ (HR5.out.ext hX) (HR7.out.ext hX)).mono ?_
      rintro e w2 ⟨rfl, h2⟩
      exact ⟨_, rfl, hK _ _ ⟨h2, (by rw [beq_self_eq_true]; rfl)⟩⟩
    refine ⟨⟨fun _ _ => trivial, fun ρ w' hX hG hk => ?_⟩, ?_⟩
    · obtain ⟨k0, k1, k2, -⟩ := hk
      have e0 : ρ (.tmp 45) = Value.bool true := k0
      have e1 : ρ (.tmp 48) = Value.bool true := k1
      have e2 : ρ (Operand.const (Value.bool false)) = (Value.bool false) := k2
      clear k0 k1 k2
      refine Par.val_k fun K hK => ?_
      unfold Par.val
      (go_simp; exact hK _ _ ⟨Ext.refl _, rfl⟩)
    refine ⟨⟨fun _ _ => trivial, fun ρ w' hX hG hk => ?_⟩, ?_⟩
    · exact Par.val_of_run rfl ⟨Ext.refl _, hk.1⟩
    refine ⟨⟨fun _ _ u hu => .inl hu, fun ρ w' hX hG hk => ?_⟩, ?_⟩
    · exact Par.val_of_run rfl ⟨Ext.refl _, hk.1⟩
    refine ⟨⟨fun _ _ u hu => .inl hu, fun ρ w' hX hG hk => ?_⟩, ?_⟩
    · exact Par.val_of_run rfl ⟨Ext.refl _, hk.1⟩
    refine ⟨⟨fun _ _ u hu => .inl hu, fun ρ w' hX hG hk => ?_⟩, ?_⟩
    · obtain ⟨k0, k1, -⟩ := hk
      have e0 : ρ (.tmp 51) = Value.bool (isPut l) := k0
      have e1 : ρ (.tmp 52) = Value.bool (isPut l) := k1
      clear k0 k1
      refine Par.val_k fun K hK => ?_
      unfold Par.val
      (go_simp; exact hK _ _ ⟨Ext.refl _, rfl⟩)
    refine ⟨⟨fun _ _ => trivial, fun ρ w' hX hG hk => ?_⟩, ?_⟩
    · obtain ⟨k0, k1, k2, -⟩ := hk
      have e0 : ρ (.tmp 50) = Value.bool true := k0
      have e1 : ρ (.tmp 53) = Value.bool true := k1
      have e2 : ρ (Operand.const (Value.bool false)) = (Value.bool false) := k2
      clear k0 k1 k2
      refine Par.val_k fun K hK => ?_
      unfold Par.val
      (go_simp; exact hK _ _ ⟨Ext.refl _, rfl⟩)
    refine ⟨⟨fun _ _ => trivial, fun ρ w' hX hG hk => ?_⟩, ?_⟩
    · exact Par.val_of_run rfl ⟨Ext.refl _, hk.1⟩
    refine ⟨⟨fun _ _ u hu => .inl hu, fun ρ w' hX hG hk => ?_⟩, ?_⟩
    · obtain ⟨k0, -⟩ := hk
      have e0 := k0
      clear k0
      refine Par.val_k fun K hK => ?_
      unfold Par.val
      refine Par.val_call Try.func17 (by kernel_rfl) rfl e0 ?_
      simp only [List.map_toArray, List.map_nil]
      refine (table_any _).mono ?_
      rintro e w2 ⟨rfl, h2⟩
      exact ⟨_, rfl, hK _ _ ⟨h2, rfl⟩⟩
    refine ⟨⟨fun _ _ u hu => .inl hu, fun ρ w' hX hG hk => ?_⟩, ?_⟩
    · exact Par.val_of_run rfl ⟨Ext.refl _, hk.1⟩
    refine ⟨⟨fun _ _ u hu => .inl hu, fun ρ w' hX hG hk => ?_⟩, ?_⟩
    · obtain ⟨k0, k1, -⟩ := hk
      have e0 : ρ (.tmp 57) = Value.int IntKind.u32 s := k0
      have e1 : ρ (Operand.const (Value.int IntKind.u32 256)) = (Value.int IntKind.u32 256) := k1
      clear k0 k1
      refine Par.val_k fun K hK => ?_
      unfold Par.val
      (have hh : (s : Int).tmod 256 = ((s % 256 : Nat) : Int) := rfl; go_simp; exact hK _ _ ⟨Ext.refl _, rfl⟩)
    refine ⟨⟨fun _ _ u hu => .inl hu, fun ρ w' hX hG hk => ?_⟩, ?_⟩
    · obtain ⟨k0, k1, -⟩ := hk
      have e0 : ρ (.tmp 56) = Value.agg (tabArr 256) := k0
      have e1 : ρ (.tmp 58) = Value.int IntKind.u32 ((s % 256 : Nat) : Int) := k1
      clear k0 k1
      refine Par.val_k fun K hK => ?_
      unfold Par.val
      (have hti := HTI.out w'; go_simp; exact hK _ _ ⟨Ext.refl _, rfl⟩)
    refine ⟨⟨fun _ _ u hu => .inl hu, fun ρ w' hX hG hk => ?_⟩, ?_⟩
    · exact Par.val_of_run rfl ⟨Ext.refl _, hk.1⟩
    refine ⟨⟨fun _ _ u hu => .inl hu, fun ρ w' hX hG hk => ?_⟩, ?_⟩
    · obtain ⟨k0, k1, -⟩ := hk
      have e0 : ρ (.tmp 60) = Value.int IntKind.u32 s := k0
      have e1 : ρ (Operand.const (Value.int IntKind.u32 256)) = (Value.int IntKind.u32 256) := k1
      clear k0 k1
      refine Par.val_k fun K hK => ?_
      unfold Par.val
      (go_simp; exact hK _ _ ⟨Ext.refl _, rfl⟩)
    refine ⟨⟨fun _ _ u hu => .inl hu, fun ρ w' hX hG hk => ?_⟩, ?_⟩
    · obtain ⟨k0, k1, -⟩ := hk
      have e0 := k0
      have e1 : ρ (.tmp 61) = Value.int IntKind.u32 ((s % 256 : Nat) : Int) := k1
      clear k0 k1
      refine Par.val_k fun K hK => ?_
      unfold Par.val
      refine Par.val_call Try.func18 (by kernel_rfl) rfl e0 ?_
      simp only [List.map_toArray, List.map_cons, List.map_nil, e1]
      refine (entry_any _ (s % 256) rfl (by omega) _).mono ?_
      rintro e w2 ⟨rfl, rfl⟩
      exact ⟨_, rfl, hK _ _ ⟨Ext.refl _, rfl⟩⟩
    refine ⟨⟨fun _ _ u hu => .inl hu, fun ρ w' hX hG hk => ?_⟩, ?_⟩
    · obtain ⟨k0, k1, -⟩ := hk
      have e0 : ρ (.tmp 59) = Value.int IntKind.u32 (tab (s % 256) : Nat) := k0
      have e1 : ρ (.tmp 62) = Value.int IntKind.u32 (tab (s % 256) : Nat) := k1
      clear k0 k1
      refine Par.val_k fun K hK => ?_
      unfold Par.val
      (go_simp; exact hK _ _ ⟨Ext.refl _, rfl⟩)
    refine ⟨⟨fun _ _ => trivial, fun ρ w' hX hG hk => ?_⟩, ?_⟩
    · obtain ⟨k0, k1, k2, -⟩ := hk
      have e0 : ρ (.tmp 55) = Value.bool true := k0
      have e1 : ρ (.tmp 63) = Value.bool true := k1
      have e2 : ρ (Operand.const (Value.bool false)) = (Value.bool false) := k2
      clear k0 k1 k2
      refine Par.val_k fun K hK => ?_
      unfold Par.val
      (go_simp; exact hK _ _ ⟨Ext.refl _, rfl⟩)
    refine ⟨⟨fun _ _ => trivial, fun ρ w' hX hG hk => ?_⟩, ?_⟩
    · exact Par.val_of_run rfl ⟨Ext.refl _, hk.1⟩
    trivial
  intro a' w' inv
  have hX := inv.ext
  have q24 : a'.tmps.getD 24 undef = Value.slice ao l.length cap := inv.done 0 _ 24 rfl rfl rfl
  have q25 : a'.tmps.getD 25 undef = Value.int IntKind.u32 (Crc.sum l : Nat) := inv.done 1 _ 25 rfl rfl rfl
  have q26 : a'.tmps.getD 26 undef = Value.slice ao l.length cap := inv.done 2 _ 26 rfl rfl rfl
  have q27 : a'.tmps.getD 27 undef = Value.int IntKind.u32 (Crc.sum l : Nat) := inv.done 3 _ 27 rfl rfl rfl
  have q28 : a'.tmps.getD 28 undef = Value.bool true := inv.done 4 _ 28 rfl rfl rfl
  have q29 : a'.tmps.getD 29 undef = Value.bool true := inv.done 5 _ 29 rfl rfl rfl
  have q30 : a'.tmps.getD 30 undef = Value.int IntKind.u32 s := inv.done 6 _ 30 rfl rfl rfl
  have q31 : a'.tmps.getD 31 undef = Value.slice ao l.length cap := inv.done 7 _ 31 rfl rfl rfl
  have q32 : a'.tmps.getD 32 undef = Value.int IntKind.u32 (Crc.more s l : Nat) := inv.done 8 _ 32 rfl rfl rfl
  have q33 : a'.tmps.getD 33 undef = Value.int IntKind.u32 s := inv.done 9 _ 33 rfl rfl rfl
  have q34 : a'.tmps.getD 34 undef = Value.slice ao l.length cap := inv.done 10 _ 34 rfl rfl rfl
  have q35 : a'.tmps.getD 35 undef = Value.int IntKind.u32 (Crc.more s l : Nat) := inv.done 11 _ 35 rfl rfl rfl
  have q36 : a'.tmps.getD 36 undef = Value.bool true := inv.done 12 _ 36 rfl rfl rfl
  have q37 : a'.tmps.getD 37 undef = Value.bool true := inv.done 13 _ 37 rfl rfl rfl
  have q38 : a'.tmps.getD 38 undef = Value.bool true := inv.done 14 _ 38 rfl rfl rfl
  have q39 : a'.tmps.getD 39 undef = Value.slice ao l.length cap := inv.done 15 _ 39 rfl rfl rfl
  have q40 : (fun v w' => Byt w' v (Crc.put l)) (a'.tmps.getD 40 undef) w' := inv.done 16 _ 40 rfl rfl rfl
  have q41 : a'.tmps.getD 41 undef = Value.slice ao l.length cap := inv.done 17 _ 41 rfl rfl rfl
  have q42 : (fun v w' => Byt w' v (Crc.put l)) (a'.tmps.getD 42 undef) w' := inv.done 18 _ 42 rfl rfl rfl
  have q43 : a'.tmps.getD 43 undef = Value.bool true := inv.done 19 _ 43 rfl rfl rfl
  have q44 : a'.tmps.getD 44 undef = Value.bool true := inv.done 20 _ 44 rfl rfl rfl
  have q45 : a'.tmps.getD 45 undef = Value.bool true := inv.done 21 _ 45 rfl rfl rfl
  have q46 : a'.tmps.getD 46 undef = r5 := inv.done 22 _ 46 rfl rfl rfl
  have q47 : a'.tmps.getD 47 undef = r7 := inv.done 23 _ 47 rfl rfl rfl
  have q48 : a'.tmps.getD 48 undef = Value.bool true := inv.done 24 _ 48 rfl rfl rfl
  have q49 : a'.tmps.getD 49 undef = Value.bool true := inv.done 25 _ 49 rfl rfl rfl
  have q50 : a'.tmps.getD 50 undef = Value.bool true := inv.done 26 _ 50 rfl rfl rfl
  have q51 : a'.tmps.getD 51 undef = Value.bool (isPut l) := inv.done 27 _ 51 rfl rfl rfl
  have q52 : a'.tmps.getD 52 undef = Value.bool (isPut l) := inv.done 28 _ 52 rfl rfl rfl
  have q53 : a'.tmps.getD 53 undef = Value.bool true := inv.done 29 _ 53 rfl rfl rfl
  have q54 : a'.tmps.getD 54 undef = Value.bool true := inv.done 30 _ 54 rfl rfl rfl
  have q55 : a'.tmps.getD 55 undef = Value.bool true := inv.done 31 _ 55 rfl rfl rfl
  have q56 : a'.tmps.getD 56 undef = Value.agg (tabArr 256) := inv.done 32 _ 56 rfl rfl rfl
  have q57 : a'.tmps.getD 57 undef = Value.int IntKind.u32 s := inv.done 33 _ 57 rfl rfl rfl
  have q58 : a'.tmps.getD 58 undef = Value.int IntKind.u32 ((s % 256 : Nat) : Int) := inv.done 34 _ 58 rfl rfl rfl
  have q59 : a'.tmps.getD 59 undef = Value.int IntKind.u32 (tab (s % 256) : Nat) := inv.done 35 _ 59 rfl rfl rfl
  have q60 : a'.tmps.getD 60 undef = Value.int IntKind.u32 s := inv.done 36 _ 60 rfl rfl rfl
  have q61 : a'.tmps.getD 61 undef = Value.int IntKind.u32 ((s % 256 : Nat) : Int) := inv.done 37 _ 61 rfl rfl rfl
  have q62 : a'.tmps.getD 62 undef = Value.int IntKind.u32 (tab (s % 256) : Nat) := inv.done 38 _ 62 rfl rfl rfl
  have q63 : a'.tmps.getD 63 undef = Value.bool true := inv.done 39 _ 63 rfl rfl rfl
  have q64 : a'.tmps.getD 64 undef = Value.bool true := inv.done 40 _ 64 rfl rfl rfl
  have q4 : a'.tmps.getD 4 undef = Value.bool true := inv.done 41 _ 4 rfl rfl rfl
  clear inv
  simp only [List.filterMap_cons, List.filterMap_nil, Par.putAll, Act.put, List.setIfInBounds_toArray, List.set_cons_succ, List.set_cons_zero, q24, q25, q26, q27, q28, q29, q30, q31, q32, q33, q34, q35, q36, q37, q38, q39, q41, q43, q44, q45, q46, q47, q48, q49, q50, q51, q52, q53, q54, q55, q56, q57, q58, q59, q60, q61, q62, q63, q64, q4]
  clear q24 q25 q26 q27 q28 q29 q30 q31 q32 q33 q34 q35 q36 q37 q38 q39 q41 q43 q44 q45 q46 q47 q48 q49 q50 q51 q52 q53 q54 q55 q56 q57 q58 q59 q60 q61 q62 q63 q64 q4
  generalize a'.tmps.getD 40 undef = u40 at *
  generalize a'.tmps.getD 42 undef = u42 at *
  clear a'
  go_wp2_with fail
  go_ret
  exact ⟨rfl, HE.out.trans hX⟩
end Go.Proofs.Ytdfeblobghdfhaa
