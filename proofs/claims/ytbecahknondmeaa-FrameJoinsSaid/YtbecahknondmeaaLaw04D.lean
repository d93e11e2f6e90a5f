/- The statements of layer 4: FrameJoins. -/
import Derived.Test.YtbecahknondmeaaLaw04
import Derived.Test.YtbecahknondmeaaFrmO
namespace Go.Proofs.Ytbecahknondmeaa
open Go.RowKit Go.Tum Go.Tum.Crc

set_option maxRecDepth 100000 in
set_option maxHeartbeats 2000000 in
theorem frameJoins_law (u v : Value) (a b : List UInt8) (w : World) (hb : Byt w u a) (hc : Byt w v b) :
    Calls Try.prog 7 #[u, v] w fun e w' => e = .returned (.bool true) ∧ Ext w w' := by
  obtain ⟨ao, cap, rfl, hle, hm, -, -⟩ := hb.open
  obtain ⟨bo, cbp, rfl, hle2, hm2, -, -⟩ := hc.open
  have HB := hid hb
  have HC := hid hc
  clear hb hc
  by_cases h1 : 1200 < a.length
  · have hd : decide (1200 < (a.length : Int)) = true := by simp; omega
    go_enter Try.func7, Try.ntmps7
    go_wp2_with fail
    refine (awake_any _).mono ?_
    rintro e w1 ⟨rfl, hw1⟩
    go_wp2
    go_ret
    exact ⟨rfl, hw1⟩
  have hd : decide (1200 < (a.length : Int)) = false := by simp; omega
  by_cases h2 : 1200 < b.length
  · have hd2 : decide (1200 < (b.length : Int)) = true := by simp; omega
    go_enter Try.func7, Try.ntmps7
    go_wp2_with fail
    refine (awake_any _).mono ?_
    rintro e w1 ⟨rfl, hw1⟩
    go_wp2
    go_ret
    exact ⟨rfl, hw1⟩
  have hd2 : decide (1200 < (b.length : Int)) = false := by simp; omega
  obtain ⟨la, na, ea, hfa⟩ : ∃ la na ea, fall a = (la, na, ea) := ⟨_, _, _, rfl⟩
  obtain ⟨lb, nb, eb, hfb⟩ : ∃ lb nb eb, fall b = (lb, nb, eb) := ⟨_, _, _, rfl⟩
  have hla := fall_le a
  have hlb := fall_le b
  have happ := fall_append a b
  rw [hfa] at hla happ
  rw [hfb] at hlb happ
  simp only [] at hla hlb happ
  obtain ⟨ha1, ha2, ha3⟩ := hla
  obtain ⟨hb1, hb2, -⟩ := hlb
  have HFA := hid hfa
  have HFB := hid hfb
  have HAPP := hid happ
  have HA3 := hid ha3
  clear hfa hfb happ ha3
  go_enter Try.func7, Try.ntmps7
  go_wp2_with fail
  refine (awake_any _).mono ?_
  rintro e w1 ⟨rfl, hw1⟩
  go_wp2_with fail
  refine (all_any _ a _ (HB.out.ext hw1) (by omega)).mono ?_
  rintro e w2 ⟨r2, rfl, hr2, hw2⟩
  rw [HFA.out] at hr2 ⊢
  simp only [] at hr2
  obtain ⟨o2, c2, rfl⟩ := hr2.open
  have hE2 := hw1.trans hw2
  have HR2 := hid hr2.frs
  clear hw1 hw2 hr2
  go_wp2_with fail
  refine (all_any _ b _ (HC.out.ext hE2) (by omega)).mono ?_
  rintro e w3 ⟨r3, rfl, hr3, hw3⟩
  rw [HFB.out] at hr3 ⊢
  simp only [] at hr3
  obtain ⟨o3, c3, rfl⟩ := hr3.open
  have hE3 := hE2.trans hw3
  have HR3 := hid hr3.frs
  have HR2b := hid (HR2.out.ext hw3)
  clear hE2 hw3 hr3 HR2
  by_cases he : ea = 0
  · have hna := HA3.out.1 he
    subst he hna
    have hab := HAPP.out rfl
    have HAB := hid hab
    clear hab
    go_wp2_with (first
      | (at_builtin; refine wpList_append_byt rfl (.tmp 45) (.tmp 46) 22 rfl w3.heap.size 5 Try.underlying22 info5 rfl (own_lit w3 _ _ [] _ rfl 0 rfl (Nat.le_refl _) (by simp [maxLen])) rfl (HB.out.ext (hE3.trans (Ext.alloc _ _))) a.length (by simp) (by omega) (by simp) ?_; intro ao4 cap4 w4 hown4 hg4 hb4)
      | (at_builtin; refine wpList_append_byt rfl (.tmp 47) (.tmp 48) 22 rfl w3.heap.size 5 Try.underlying22 info5 rfl (show Own w4 w3.heap.size 5 _ a from hown4) rfl (HC.out.ext (hE3.trans ((Ext.alloc _ _).below hb4))) (a.length + b.length) rfl (by omega) (Nat.le_trans (by simp) hb4.size) ?_; intro ao5 cap5 w5 hown5 hg5 hb5)
      | fail)
    have hx5 : Ext w3 w5 := ((Ext.alloc w3 _).below hb4).below hb5
    refine (all_any _ (a ++ b) _ hown5.byt (by simp; omega)).mono ?_
    rintro e w6 ⟨r6, rfl, hr6, hw6⟩
    rw [HAB.out] at hr6 ⊢
    simp only [] at hr6
    obtain ⟨o6, c6, rfl⟩ := hr6.open
    rw [List.length_append] at hr6 ⊢
    have hx6 := hx5.trans hw6
    have hE6 := hE3.trans hx6
    obtain ⟨pa, hpa, hra, hBa⟩ := HR2b.out.ext hx6
    obtain ⟨pb, hpb, hrb, hBb⟩ := HR3.out.ext hx6
    obtain ⟨pc, hpc, hrc, hBc⟩ := hr6.frs
    have hlpa : pa.length = la.length := by rw [← hpa]; simp
    have hlpb : pb.length = lb.length := by rw [← hpb]; simp
    have hlpc : pc.length = la.length + lb.length := by have := congrArg List.length hpc; simpa using this
    have HRA := hid hra
    have HRB := hid hrb
    have HRC := hid hrc
    have HBA := hid hBa
    have HBB := hid hBb
    have HBC := hid hBc
    have HPC := hid (show pc.map (·.1) = (pa ++ pb).map (·.1) by rw [hpc, List.map_append, hpa, hpb])
    have HLA := hid hlpa
    have HLB := hid hlpb
    have HLC := hid hlpc
    have hgeb : ((la.length + lb.length : Nat) : Int) = (la.length : Int) + lb.length := by omega
    have HL0 := hid (show (w6.alloc (.cells #[] 24)).ownsRow w6.heap.size 24 2 (.slice (some ⟨w6.heap.size, 0, none⟩) 0 0) ([] : List (Fr × Value)).length (([] : List (Fr × Value)).flatMap fcells) by
      simpa using World.ownsRow_lit (base := w6.heap.size) (e := 24) (size := 2) w6 #[] 0 (Nat.le_refl _) (by simp [maxLen]) (by simp))
    have hn1 : la.length * 32 ≤ 140737488355328 := by omega
    have hn2 : (la.length + lb.length) * 32 ≤ 140737488355328 := by omega
    clear hown4 hg4 hb4 hown5 hg5 hb5 hx5 hw6 hr6 hx6 hE3 hra hrb hrc hBa hBb hBc hpa hpb hpc hlpa hlpb hlpc HR2b HR3 hgeb
    go_wp2_with (first
      | (at_builtin; refine wpList_append_frows rfl (.tmp 81) (.tmp 82) 35 rfl w6.heap.size 24 Try.underlying35 infoFr rfl HL0.out rfl (HRA.out.ext (Ext.alloc _ _)) (fun p hp => (HBA.out p hp).ext (Ext.alloc _ _)) la.length (by rw [HLA.out]; simp) hn1 (by simp) ?_; intro ao7 cap7 w7 hown7 hg7 hb7)
      | (at_builtin; refine wpList_append_frows rfl (.tmp 83) (.tmp 84) 35 rfl w6.heap.size 24 Try.underlying35 infoFr rfl hown7 rfl (HRB.out.ext ((Ext.alloc _ _).below hb7)) (fun p hp => (HBB.out p hp).ext ((Ext.alloc _ _).below hb7)) (la.length + lb.length) (by rw [List.length_append, HLA.out, HLB.out]; simp) hn2 (Nat.le_trans (by simp) hb7.size) ?_; intro ao8 cap8 w8 hown8 hg8 hb8)
      | fail)
    have hx8 : Ext w6 w8 := ((Ext.alloc w6 _).below hb7).below hb8
    have hE8 := hE6.trans hx8
    have hrq : RowsOf w8 2 (.slice ao8 (la.length + lb.length) cap8) fcells (pa ++ pb) := by
      refine ⟨fun _ _ => rfl, ?_⟩
      have := Sl.of_owns hown8
      rw [List.nil_append] at this
      rw [show (pa ++ pb).length = la.length + lb.length by rw [List.length_append, HLA.out, HLB.out]] at this ⊢
      exact this
    obtain ⟨hq1, hq2, hq3, hq4, hq5⟩ := hrq.opens
    obtain ⟨-, hc2', hc3', hc4', hc5'⟩ := HRC.out.opens
    have HQ4 := hid hq4
    have HQ5 := hid hq5
    have HC4 := hid hc4'
    have HC5 := hid hc5'
    have HQ1 := hid hq1
    have HX8 := hid hx8
    clear hown7 hg7 hb7 hown8 hg8 hb8 hx8 hrq hq1 hq4 hq5 hc4' hc5' HRA HRB HRC
    go_loopw [87] (fun i wr => ∃ k : Nat, k ≤ la.length + lb.length ∧ i = .int .i64 k ∧ Hid (Ext w8 wr)) (fun i _ => la.length + lb.length - (intOf i).toNat)
    case atStart => exact ⟨0, by omega, rfl, Ext.refl _⟩
    case round =>
      obtain ⟨k, hk, rfl, HE⟩ := hrel
      by_cases hlt : k < la.length + lb.length
      · have hkq : k < (pa ++ pb).length := by rw [← HQ1.out]; exact hlt
        have hkc : k < pc.length := by rw [HLC.out]; exact hlt
        obtain ⟨p8, rfl⟩ := HQ4.out (by omega)
        obtain ⟨p6, rfl⟩ := HC4.out (by omega)
        have hsame : pc[k].1 = (pa ++ pb)[k].1 := by
          have h1 : (pc.map (·.1))[k]? = ((pa ++ pb).map (·.1))[k]? := by rw [HPC.out]
          rw [List.getElem?_map, List.getElem?_map, List.getElem?_eq_getElem hkc, List.getElem?_eq_getElem hkq] at h1
          simpa using h1
        have d0 := cell_first (HE.out.cell (HQ5.out p8 rfl k hkq 0 _ rfl))
        have d1 := cell_next (HE.out.cell (HQ5.out p8 rfl k hkq 1 _ rfl)) (by decide)
        have e0 := cell_first ((HX8.out.trans HE.out).cell (HC5.out p6 rfl k hkc 0 _ rfl))
        have e1 := cell_next ((HX8.out.trans HE.out).cell (HC5.out p6 rfl k hkc 1 _ rfl)) (by decide)
        have hBq : Byt w6 (pa ++ pb)[k].2 (pa ++ pb)[k].1.body := by
          rcases List.mem_append.1 (List.getElem_mem hkq) with h | h
          · exact HBA.out _ h
          · exact HBB.out _ h
        have hBc := HBC.out _ (List.getElem_mem hkc)
        rw [← hsame] at d0 hBq
        obtain ⟨X, hX0⟩ : ∃ X, pc[k].1 = X := ⟨_, rfl⟩
        obtain ⟨U, hU0⟩ : ∃ U, pc[k].2 = U := ⟨_, rfl⟩
        obtain ⟨V, hV0⟩ : ∃ V, (pa ++ pb)[k].2 = V := ⟨_, rfl⟩
        rw [hX0] at d0 e0 hBq hBc
        rw [hV0] at d1 hBq
        rw [hU0] at e1 hBc
        obtain ⟨U1, U3, hU, -, -, -, -⟩ := hBc.open
        obtain ⟨V1, V3, hV, -, -, -, -⟩ := hBq.open
        subst hU hV
        have BU := hid (hBc.ext (HX8.out.trans HE.out))
        have BV := hid (hBq.ext (HX8.out.trans HE.out))
        have HSB := hid (show sameB X X = true by simp [sameB])
        have E0 := hid e0
        have E1 := hid e1
        have hI : (k : Int) < (la.length : Int) + lb.length := by omega
        have hI0 : (0 : Int) ≤ k := by omega
        clear hsame hX0 hU0 hV0 hBq hBc e0 e1
        go_wp2_with fail
        have hxr := Ext.alloc wr (.cells #[.int .u8 (X.kind.toNat : Int), .slice V1 X.body.length V3] 24)
        have HY := hid (blk2 (heap_alloc_new wr (.cells #[.int .u8 (X.kind.toNat : Int), .slice V1 X.body.length V3] 24)))
        have E0b := hid (hxr.cell E0.out)
        have E1b := hid (hxr.cell E1.out)
        have BUb := hid (BU.out.ext hxr)
        have BVb := hid (BV.out.ext hxr)
        have HEb := HE.out.trans hxr
        clear hxr E0 E1 BU BV d0 d1
        generalize wr.heap.size = br at *
        generalize wr.alloc (.cells #[.int .u8 (X.kind.toNat : Int), .slice V1 X.body.length V3] 24) = W9 at *
        refine Par.wp_region_par (l := [_, _, _, _, _, _, _]) rfl Ext (Par.VL [Par.EQ (Value.slice (some p6) (la.length + lb.length) c6), Par.EQ (Value.int IntKind.i64 (k : Int)), Par.EQ (Value.pointer (some (p6.add (k * 2)))), Par.EQ (fv X (.slice U1 X.body.length U3)), Par.EQ (fv X (.slice V1 X.body.length V3)), Par.EQ (Value.bool true), Par.EQ (Value.bool false)]) (by kernel_rfl) Ext.refl (fun _ _ _ h1 h2 => Ext.trans h1 h2) (Ext.draw _) (Par.VL_stab ?_) ?_ ?_
        · simp only [List.forall_mem_cons, List.not_mem_nil, false_implies, implies_true, and_true]
          refine ⟨fun _ _ _ _ h => h, fun _ _ _ _ h => h, fun _ _ _ _ h => h, fun _ _ _ _ h => h, fun _ _ _ _ h => h, fun _ _ _ _ h => h, fun _ _ _ _ h => h⟩
        · refine ⟨⟨fun _ _ => trivial, fun ρ w' hX hG hk => ?_⟩, ?_⟩
          · exact Par.val_of_run rfl ⟨Ext.refl _, hk.1⟩
          refine ⟨⟨fun _ _ => trivial, fun ρ w' hX hG hk => ?_⟩, ?_⟩
          · exact Par.val_of_run rfl ⟨Ext.refl _, hk.1⟩
          refine ⟨⟨fun _ _ => trivial, fun ρ w' hX hG hk => ?_⟩, ?_⟩
          · obtain ⟨k0, k1, -⟩ := hk
            have e0 : ρ (.tmp 92) = Value.slice (some p6) (la.length + lb.length) c6 := k0
            have e1 : ρ (.tmp 93) = Value.int IntKind.i64 (k : Int) := k1
            clear k0 k1
            refine Par.val_k fun K hK => ?_
            unfold Par.val
            (go_simp; exact hK _ _ ⟨Ext.refl _, rfl⟩)
          refine ⟨⟨fun _ _ => trivial, fun ρ w' hX hG hk => ?_⟩, ?_⟩
          · obtain ⟨k0, -⟩ := hk
            have e0 : ρ (.tmp 94) = Value.pointer (some (p6.add (k * 2))) := k0
            clear k0
            refine Par.val_k fun K hK => ?_
            unfold Par.val
            (have c := hX.cell E0b.out; have c2 := hX.cell E1b.out; go_simp; exact hK _ _ ⟨Ext.refl _, rfl⟩)
          refine ⟨⟨fun _ _ => trivial, fun ρ w' hX hG hk => ?_⟩, ?_⟩
          · obtain ⟨k0, -⟩ := hk
            have e0 : ρ (.tmp 15) = Value.pointer (some ⟨br, 0, none⟩) := k0
            clear k0
            refine Par.val_k fun K hK => ?_
            unfold Par.val
            (have c := hX.cell HY.out.1; have c2 := hX.cell HY.out.2.1; go_simp; exact hK _ _ ⟨Ext.refl _, rfl⟩)
          refine ⟨⟨fun _ _ => trivial, fun ρ w' hX hG hk => ?_⟩, ?_⟩
          · obtain ⟨k0, k1, k2, -⟩ := hk
            have e0 := k0
            have e1 : ρ (.tmp 95) = fv X (.slice U1 X.body.length U3) := k1
            have e2 : ρ (.tmp 96) = fv X (.slice V1 X.body.length V3) := k2
            clear k0 k1 k2
            refine Par.val_k fun K hK => ?_
            unfold Par.val
            refine Par.val_call Try.func18 (by kernel_rfl) rfl e0 ?_
            simp only [List.map_toArray, List.map_cons, List.map_nil, e1, e2]
            refine (same_any X X _ _ _ (BUb.out.ext hX) (BVb.out.ext hX)).mono ?_
            rintro e w2 ⟨rfl, h2⟩
            exact ⟨_, rfl, hK _ _ ⟨h2, (congrArg Value.bool HSB.out)⟩⟩
          refine ⟨⟨fun _ _ => trivial, fun ρ w' hX hG hk => ?_⟩, ?_⟩
          · obtain ⟨k0, -⟩ := hk
            have e0 : ρ (.tmp 97) = Value.bool true := k0
            clear k0
            refine Par.val_k fun K hK => ?_
            unfold Par.val
            (go_simp; exact hK _ _ ⟨Ext.refl _, rfl⟩)
          trivial
        intro a' w' inv
        have hX := inv.ext
        have q92 : a'.tmps.getD 92 undef = Value.slice (some p6) (la.length + lb.length) c6 := inv.done 0 _ 92 rfl rfl rfl
        have q93 : a'.tmps.getD 93 undef = Value.int IntKind.i64 (k : Int) := inv.done 1 _ 93 rfl rfl rfl
        have q94 : a'.tmps.getD 94 undef = Value.pointer (some (p6.add (k * 2))) := inv.done 2 _ 94 rfl rfl rfl
        have q95 : a'.tmps.getD 95 undef = fv X (.slice U1 X.body.length U3) := inv.done 3 _ 95 rfl rfl rfl
        have q96 : a'.tmps.getD 96 undef = fv X (.slice V1 X.body.length V3) := inv.done 4 _ 96 rfl rfl rfl
        have q97 : a'.tmps.getD 97 undef = Value.bool true := inv.done 5 _ 97 rfl rfl rfl
        have q98 : a'.tmps.getD 98 undef = Value.bool false := inv.done 6 _ 98 rfl rfl rfl
        clear inv
        simp only [List.filterMap_cons, List.filterMap_nil, Par.putAll, Act.put, List.setIfInBounds_toArray, List.set_cons_succ, List.set_cons_zero, q92, q93, q94, q95, q96, q97, q98]
        clear q92 q93 q94 q95 q96 q97 q98
        clear a'
        have HEc := HEb.trans hX
        go_wp2
        go_roundw
        case rel => exact ⟨k + 1, by omega, by go_num, HEc⟩
        case measure => simp [intOf]; omega
      · obtain rfl : k = la.length + lb.length := by omega
        go_wp2
        go_ret
        exact ⟨rfl, hE8.trans HE.out⟩
  · have hlt : na < a.length := by
      rcases Nat.lt_or_ge na a.length with h | h
      · exact h
      · exact absurd (HA3.out.2 (by omega)) he
    have he' : (ea != 0) = true := by simp [he]
    have hlt' : decide ((na : Int) < (a.length : Int)) = true := by simpa using hlt
    have hlt2 : decide (na < a.length) = true := by simpa using hlt
    clear he
    go_wp2
    go_ret
    exact ⟨by simp, hE3⟩
end Go.Proofs.Ytbecahknondmeaa
