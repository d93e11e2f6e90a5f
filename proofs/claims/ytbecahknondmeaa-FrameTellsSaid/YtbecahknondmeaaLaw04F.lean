/- The statements of layer 4: FrameTells. -/
import Derived.Test.YtbecahknondmeaaLaw04
import Derived.Test.YtbecahknondmeaaFrmO
namespace Go.Proofs.Ytbecahknondmeaa
open Go.RowKit Go.Tum Go.Tum.Crc

theorem frs_lit (w : World) (T : Nat) (x : Fr) (r : Value) (h : Byt w r x.body) : Frs (w.alloc (.cells #[.int .u8 (x.kind.toNat : Int), r] T)) (.slice (some ⟨w.heap.size, 0, none⟩) 1 1) [x] := by
  refine ⟨[(x, r)], rfl, ⟨fun _ _ => rfl, rfl, some ⟨w.heap.size, 0, none⟩, 1, rfl, Nat.le_refl _, by simp [maxLen], (fun h => by cases h), fun a ha j u hu => ?_⟩, ?_⟩
  · cases ha
    have e1 : (⟨w.heap.size, 0, none⟩ : Addr).add j = ⟨w.heap.size, j, none⟩ := by unfold Addr.add; split <;> simp_all
    rw [e1, cell_of_row _ _ _ _ _ _ (heap_alloc_new w _)]
    simpa using hu
  · intro p hp
    simp at hp; subst hp
    exact h.ext (Ext.alloc _ _)
theorem samesB_one (x y : Fr) : samesB [x] [y] = sameB x y := by simp [samesB, sameB]
theorem bsame (l : List UInt8) : (l == l) = true := by simp

set_option maxRecDepth 100000 in
set_option maxHeartbeats 4000000 in
theorem frameTells_law (x y : Fr) (u v t : Value) (b : List UInt8) (w : World) (hx : Byt w u x.body) (hy : Byt w v y.body) (hb : Byt w t b) :
    Calls Try.prog 3 #[fv x u, fv y v, t] w fun e w' => e = .returned (.bool true) ∧ Ext w w' := by
  obtain ⟨ao, cap, rfl, -, -, -, -⟩ := hx.open
  obtain ⟨bo, cbp, rfl, -, -, -, -⟩ := hy.open
  obtain ⟨co, ccp, rfl, -, -, -, -⟩ := hb.open
  have HX := hid hx
  have HY := hid hy
  have HB := hid hb
  clear hx hy hb
  have hbox : ∀ w1, Ext ((w.alloc (.cells #[.int .u8 (x.kind.toNat : Int), .slice ao x.body.length cap] 24)).alloc (.cells #[.int .u8 (y.kind.toNat : Int), .slice bo y.body.length cbp] 24)) w1 →
      w1.heap[w.heap.size]? = some (.cells #[.int .u8 (x.kind.toNat : Int), .slice ao x.body.length cap] 24) ∧ w1.heap[w.heap.size + 1]? = some (.cells #[.int .u8 (y.kind.toNat : Int), .slice bo y.body.length cbp] 24) := fun w1 h => by
    refine ⟨h.obj ((Ext.alloc _ _).obj (heap_alloc_new w _)), h.obj ?_⟩
    have := heap_alloc_new (w.alloc (.cells #[.int .u8 (x.kind.toNat : Int), .slice ao x.body.length cap] 24)) (.cells #[.int .u8 (y.kind.toNat : Int), .slice bo y.body.length cbp] 24)
    rwa [World.size_alloc] at this
  have HBOX := hid hbox
  clear hbox
  by_cases h1 : 1200 < x.body.length
  · have hd : decide (1200 < (x.body.length : Int)) = true := by simp; omega
    go_enter Try.func3, Try.ntmps3
    go_wp2_with fail
    refine (awake_any _).mono ?_
    rintro e w1 ⟨rfl, hw1⟩
    obtain ⟨k0, k1⟩ := HBOX.out w1 hw1
    obtain ⟨c0, c1, -, -⟩ := blk2 k0
    obtain ⟨d0, d1, -, -⟩ := blk2 k1
    have hE := ((Ext.alloc _ _).trans (Ext.alloc _ _)).trans hw1
    clear hw1 k0 k1
    go_wp2
    go_ret
    exact ⟨rfl, hE⟩
  have hd : decide (1200 < (x.body.length : Int)) = false := by simp; omega
  by_cases h2 : 1200 < y.body.length
  · have hd2 : decide (1200 < (y.body.length : Int)) = true := by simp; omega
    go_enter Try.func3, Try.ntmps3
    go_wp2_with fail
    refine (awake_any _).mono ?_
    rintro e w1 ⟨rfl, hw1⟩
    obtain ⟨k0, k1⟩ := HBOX.out w1 hw1
    obtain ⟨c0, c1, -, -⟩ := blk2 k0
    obtain ⟨d0, d1, -, -⟩ := blk2 k1
    have hE := ((Ext.alloc _ _).trans (Ext.alloc _ _)).trans hw1
    clear hw1 k0 k1
    go_wp2
    go_ret
    exact ⟨rfl, hE⟩
  have hd2 : decide (1200 < (y.body.length : Int)) = false := by simp; omega
  by_cases h3 : 1200 < b.length
  · have hd3 : decide (1200 < (b.length : Int)) = true := by simp; omega
    go_enter Try.func3, Try.ntmps3
    go_wp2_with fail
    refine (awake_any _).mono ?_
    rintro e w1 ⟨rfl, hw1⟩
    obtain ⟨k0, k1⟩ := HBOX.out w1 hw1
    obtain ⟨c0, c1, -, -⟩ := blk2 k0
    obtain ⟨d0, d1, -, -⟩ := blk2 k1
    have hE := ((Ext.alloc _ _).trans (Ext.alloc _ _)).trans hw1
    clear hw1 k0 k1
    go_wp2
    go_ret
    exact ⟨rfl, hE⟩
  have hd3 : decide (1200 < (b.length : Int)) = false := by simp; omega
  obtain ⟨fb, fe, hfb⟩ : ∃ fb fe, fbytesR x = (fb, fe) := ⟨_, _, rfl⟩
  obtain ⟨Y, n, er, hrd⟩ : ∃ Y n er, fread b = (Y, n, er) := ⟨_, _, _, rfl⟩
  obtain ⟨la, na, ea, hfa⟩ : ∃ la na ea, fall b = (la, na, ea) := ⟨_, _, _, rfl⟩
  have hla := fall_le b
  rw [hfa] at hla
  simp only [] at hla
  have hlal : la.length ≤ 1048576 := by omega
  have HFB := hid hfb
  have HRD := hid hrd
  have HFA := hid hfa
  clear hfb hrd hfa hla
  go_enter Try.func3, Try.ntmps3
  go_wp2_with fail
  refine (awake_any _).mono ?_
  rintro e w1 ⟨rfl, hw1⟩
  obtain ⟨k0, k1⟩ := HBOX.out w1 hw1
  obtain ⟨c0, c1, -, -⟩ := blk2 k0
  obtain ⟨d0, d1, -, -⟩ := blk2 k1
  have hE1 := ((Ext.alloc w _).trans (Ext.alloc _ _)).trans hw1
  have K0 := hid k0
  have K1 := hid k1
  clear hw1 k0 k1 HBOX
  go_wp2_with fail
  refine (fbytes_any x _ _ (HX.out.ext hE1)).mono ?_
  rintro e w2 ⟨r2, rfl, hr2, hw2⟩
  rw [HFB.out] at hr2 ⊢
  simp only [] at hr2
  obtain ⟨o2, c2', rfl, -, -, -, -⟩ := hr2.byt.open
  have R2 := hid hr2.byt
  have hE2 := hE1.trans hw2
  have K0b := hid (hw2.obj K0.out)
  have K1b := hid (hw2.obj K1.out)
  clear c0 c1 d0 d1 K0 K1 hr2 hw2 hE1
  obtain ⟨c0, c1, -, -⟩ := blk2 K0b.out
  go_wp2_with fail
  refine (rbytes_any x _ _ (HX.out.ext hE2)).mono ?_
  rintro e w3 ⟨r3, rfl, hr3, hw3⟩
  rw [HFB.out] at hr3 ⊢
  simp only [] at hr3
  obtain ⟨o3, c3', rfl, -, -, -, -⟩ := hr3.byt.open
  have R3 := hid hr3.byt
  have R2b := hid (R2.out.ext hw3)
  have hE3 := hE2.trans hw3
  have K0c := hid (hw3.obj K0b.out)
  have K1c := hid (hw3.obj K1b.out)
  clear c0 c1 K0b K1b hr3 hw3 hE2 R2
  go_wp2_with fail
  refine (read_any _ b _ (HB.out.ext hE3) (by omega)).mono ?_
  rintro e w4 ⟨r4, rfl, hr4, hw4⟩
  rw [HRD.out] at hr4 ⊢
  simp only [] at hr4
  obtain ⟨o4, c4', rfl, -, -, -, -⟩ := hr4.byt.open
  have hx4 := hw4.trans (Ext.alloc w4 (.cells #[.int .u8 (Y.kind.toNat : Int), .slice o4 Y.body.length c4'] 24))
  have U4 := hid (heap_alloc_new w4 (.cells #[.int .u8 (Y.kind.toNat : Int), .slice o4 Y.body.length c4'] 24))
  have R4 := hid (hr4.byt.ext (Ext.alloc w4 (.cells #[.int .u8 (Y.kind.toNat : Int), .slice o4 Y.body.length c4'] 24)))
  have R2c := hid (R2b.out.ext hx4)
  have R3b := hid (R3.out.ext hx4)
  have hE4 := hE3.trans hx4
  have K0d := hid (hx4.obj K0c.out)
  have K1d := hid (hx4.obj K1c.out)
  clear K0c K1c hr4 hw4 hx4 hE3 R2b R3
  go_wp2_with fail
  generalize w4.heap.size = b4 at *
  generalize w4.alloc (.cells #[.int .u8 (Y.kind.toNat : Int), .slice o4 Y.body.length c4'] 24) = W4 at *
  refine (rread_any _ b _ (HB.out.ext hE4) (by omega)).mono ?_
  rintro e w5 ⟨r5, rfl, hr5, hw5⟩
  rw [HRD.out] at hr5 ⊢
  simp only [] at hr5
  obtain ⟨o5, c5', rfl, -, -, -, -⟩ := hr5.byt.open
  have hx5 := hw5.trans (Ext.alloc w5 (.cells #[.int .u8 (Y.kind.toNat : Int), .slice o5 Y.body.length c5'] 30))
  have V5 := hid (heap_alloc_new w5 (.cells #[.int .u8 (Y.kind.toNat : Int), .slice o5 Y.body.length c5'] 30))
  have R5 := hid (hr5.byt.ext (Ext.alloc w5 (.cells #[.int .u8 (Y.kind.toNat : Int), .slice o5 Y.body.length c5'] 30)))
  have R2d := hid (R2c.out.ext hx5)
  have R3c := hid (R3b.out.ext hx5)
  have R4b := hid (R4.out.ext hx5)
  have U5 := hid (hx5.obj U4.out)
  have hE5 := hE4.trans hx5
  have K0e := hid (hx5.obj K0d.out)
  have K1e := hid (hx5.obj K1d.out)
  clear K0d K1d hr5 hw5 hx5 hE4 R2c R3b R4 U4
  go_wp2_with fail
  generalize w5.heap.size = b5 at *
  generalize w5.alloc (.cells #[.int .u8 (Y.kind.toNat : Int), .slice o5 Y.body.length c5'] 30) = W5 at *
  refine (all_any _ b _ (HB.out.ext hE5) (by omega)).mono ?_
  rintro e w6 ⟨r6, rfl, hr6, hw6⟩
  rw [HFA.out] at hr6 ⊢
  simp only [] at hr6
  obtain ⟨o6, c6', rfl⟩ := hr6.open
  have L6 := hid hr6.frs
  have R2e := hid (R2d.out.ext hw6)
  have R3d := hid (R3c.out.ext hw6)
  have R4c := hid (R4b.out.ext hw6)
  have R5b := hid (R5.out.ext hw6)
  have U6 := hid (hw6.obj U5.out)
  have V6 := hid (hw6.obj V5.out)
  have hE6 := hE5.trans hw6
  have K0f := hid (hw6.obj K0e.out)
  have K1f := hid (hw6.obj K1e.out)
  clear K0e K1e hr6 hw6 hE5 R2d R3c R4b R5 U5 V5
  go_wp2_with fail
  refine (rall_any _ b _ (HB.out.ext hE6) (by omega)).mono ?_
  rintro e w7 ⟨r7, rfl, hr7, hw7⟩
  rw [HFA.out] at hr7 ⊢
  simp only [] at hr7
  obtain ⟨o7, c7', rfl⟩ := hr7.open
  have L7 := hid hr7.frs
  have L6b := hid (L6.out.ext hw7)
  have P7 := hid (R2e.out.ext hw7)
  have Q7 := hid (R3d.out.ext hw7)
  have RU := hid (R4c.out.ext hw7)
  have RV := hid (R5b.out.ext hw7)
  have CU := hid (blk2 (hw7.obj U6.out))
  have CV := hid (blk2 (hw7.obj V6.out))
  have hE7 := hE6.trans hw7
  have CX := hid (blk2 (hw7.obj K0f.out))
  have CY := hid (blk2 (hw7.obj K1f.out))
  have BX := hid (HX.out.ext hE7)
  have BY := hid (HY.out.ext hE7)
  clear K0f K1f hr7 hw7 hE6 R2e R3d R4c R5b U6 V6 L6
  obtain ⟨BS, hBS⟩ : ∃ BS, sameB x y = BS := ⟨_, rfl⟩
  have HBS := hid hBS
  have HBS2 := hid (show samesB [x] [y] = BS by rw [samesB_one, hBS])
  have HS1 := hid (samesB_eq (l := [Y]) rfl)
  have HS2 := hid (samesB_eq (l := la) rfl)
  have HBB := hid (bsame fb)
  have hbs : (BS == BS) = true := by simp
  clear hBS
  go_wp2_with fail
  refine Par.wp_region_par (l := [_, _, _, _, _, _, _, _, _, _, _, _, _, _, _, _, _, _, _, _, _, _, _, _, _, _, _, _, _, _, _, _, _, _, _, _, _, _, _, _, _, _, _, _, _, _, _, _, _, _, _, _, _, _, _, _]) rfl Ext (Par.VL [Par.EQ (Value.slice o2 fb.length c2'), Par.EQ (Value.slice o3 fb.length c3'), Par.EQ (Value.bool true), Par.EQ (Value.bool true), Par.EQ (Value.int IntKind.i64 fe), Par.EQ (Value.int IntKind.i64 fe), Par.EQ (Value.bool true), Par.EQ (Value.bool true), Par.EQ (Value.bool true), Par.EQ (fv Y (.slice o4 Y.body.length c4')), (fun v w' => Frs w' v [Y]), (fun v w' => Frs w' v [Y]), Par.EQ (fv Y (.slice o5 Y.body.length c5')), (fun v w' => Frs w' v [Y]), Par.EQ (Value.bool true), Par.EQ (Value.bool true), Par.EQ (Value.bool true), Par.EQ (Value.int IntKind.i64 (n : Int)), Par.EQ (Value.int IntKind.i64 (n : Int)), Par.EQ (Value.bool true), Par.EQ (Value.bool true), Par.EQ (Value.bool true), Par.EQ (Value.int IntKind.i64 er), Par.EQ (Value.int IntKind.i64 er), Par.EQ (Value.bool true), Par.EQ (Value.bool true), Par.EQ (Value.bool true), Par.EQ (Value.slice o6 la.length c6'), (fun v w' => Frs w' v la), Par.EQ (Value.slice o7 la.length c7'), Par.EQ (Value.bool true), Par.EQ (Value.bool true), Par.EQ (Value.bool true), Par.EQ (Value.int IntKind.i64 (na : Int)), Par.EQ (Value.int IntKind.i64 (na : Int)), Par.EQ (Value.bool true), Par.EQ (Value.bool true), Par.EQ (Value.bool true), Par.EQ (Value.int IntKind.i64 ea), Par.EQ (Value.int IntKind.i64 ea), Par.EQ (Value.bool true), Par.EQ (Value.bool true), Par.EQ (Value.bool true), Par.EQ (fv x (.slice ao x.body.length cap)), Par.EQ (fv y (.slice bo y.body.length cbp)), Par.EQ (Value.bool BS), Par.EQ (fv x (.slice ao x.body.length cap)), (fun v w' => Frs w' v [x]), (fun v w' => Frs w' v [x]), Par.EQ (fv y (.slice bo y.body.length cbp)), (fun v w' => Frs w' v [y]), (fun v w' => Frs w' v [y]), Par.EQ (Value.bool BS), Par.EQ (Value.bool true), Par.EQ (Value.bool true), Par.EQ (Value.bool true)]) (by kernel_rfl) Ext.refl (fun _ _ _ h1 h2 => Ext.trans h1 h2) (Ext.draw _) (Par.VL_stab ?_) ?_ ?_
  · simp only [List.forall_mem_cons, List.not_mem_nil, false_implies, implies_true, and_true]
    refine ⟨fun _ _ _ _ h => h, fun _ _ _ _ h => h, fun _ _ _ _ h => h, fun _ _ _ _ h => h, fun _ _ _ _ h => h, fun _ _ _ _ h => h, fun _ _ _ _ h => h, fun _ _ _ _ h => h, fun _ _ _ _ h => h, fun _ _ _ _ h => h, fun _ _ _ k h => h.ext k, fun _ _ _ k h => h.ext k, fun _ _ _ _ h => h, fun _ _ _ k h => h.ext k, fun _ _ _ _ h => h, fun _ _ _ _ h => h, fun _ _ _ _ h => h, fun _ _ _ _ h => h, fun _ _ _ _ h => h, fun _ _ _ _ h => h, fun _ _ _ _ h => h, fun _ _ _ _ h => h, fun _ _ _ _ h => h, fun _ _ _ _ h => h, fun _ _ _ _ h => h, fun _ _ _ _ h => h, fun _ _ _ _ h => h, fun _ _ _ _ h => h, fun _ _ _ k h => h.ext k, fun _ _ _ _ h => h, fun _ _ _ _ h => h, fun _ _ _ _ h => h, fun _ _ _ _ h => h, fun _ _ _ _ h => h, fun _ _ _ _ h => h, fun _ _ _ _ h => h, fun _ _ _ _ h => h, fun _ _ _ _ h => h, fun _ _ _ _ h => h, fun _ _ _ _ h => h, fun _ _ _ _ h => h, fun _ _ _ _ h => h, fun _ _ _ _ h => h, fun _ _ _ _ h => h, fun _ _ _ _ h => h, fun _ _ _ _ h => h, fun _ _ _ _ h => h, fun _ _ _ k h => h.ext k, fun _ _ _ k h => h.ext k, fun _ _ _ _ h => h, fun _ _ _ k h => h.ext k, fun _ _ _ k h => h.ext k, fun _ _ _ _ h => h, fun _ _ _ _ h => h, fun _ _ _ _ h => h, fun _ _ _ _ h => h⟩
  · refine ⟨⟨fun _ _ => trivial, fun ρ w' hX hG hk => ?_⟩, ?_⟩
    · exact Par.val_of_run rfl ⟨Ext.refl _, hk.1⟩
    refine ⟨⟨fun _ _ => trivial, fun ρ w' hX hG hk => ?_⟩, ?_⟩
    · exact Par.val_of_run rfl ⟨Ext.refl _, hk.1⟩
    refine ⟨⟨fun _ _ => trivial, fun ρ w' hX hG hk => ?_⟩, ?_⟩
    · obtain ⟨k0, k1, k2, -⟩ := hk
      have e0 := k0
      have e1 : ρ (.tmp 74) = Value.slice o2 fb.length c2' := k1
      have e2 : ρ (.tmp 75) = Value.slice o3 fb.length c3' := k2
      clear k0 k1 k2
      refine Par.val_k fun K hK => ?_
      unfold Par.val
      refine Par.val_call Try.func15 (by kernel_rfl) rfl e0 ?_
      simp only [List.map_toArray, List.map_cons, List.map_nil, e1, e2]
      refine (rsame_any _ _ fb fb _ (P7.out.ext hX) (Q7.out.ext hX)).mono ?_
      rintro e w2 ⟨rfl, h2⟩
      exact ⟨_, rfl, hK _ _ ⟨h2, (congrArg Value.bool HBB.out)⟩⟩
    refine ⟨⟨fun _ _ => trivial, fun ρ w' hX hG hk => ?_⟩, ?_⟩
    · exact Par.val_of_run rfl ⟨Ext.refl _, hk.1⟩
    refine ⟨⟨fun _ _ u hu => .inl hu, fun ρ w' hX hG hk => ?_⟩, ?_⟩
    · exact Par.val_of_run rfl ⟨Ext.refl _, hk.1⟩
    refine ⟨⟨fun _ _ u hu => .inl hu, fun ρ w' hX hG hk => ?_⟩, ?_⟩
    · exact Par.val_of_run rfl ⟨Ext.refl _, hk.1⟩
    refine ⟨⟨fun _ _ u hu => .inl hu, fun ρ w' hX hG hk => ?_⟩, ?_⟩
    · obtain ⟨k0, k1, -⟩ := hk
      have e0 : ρ (.tmp 78) = Value.int IntKind.i64 fe := k0
      have e1 : ρ (.tmp 79) = Value.int IntKind.i64 fe := k1
      clear k0 k1
      refine Par.val_k fun K hK => ?_
      unfold Par.val
      (go_simp; exact hK _ _ ⟨Ext.refl _, rfl⟩)
    refine ⟨⟨fun _ _ => trivial, fun ρ w' hX hG hk => ?_⟩, ?_⟩
    · obtain ⟨k0, k1, k2, -⟩ := hk
      have e0 : ρ (.tmp 77) = Value.bool true := k0
      have e1 : ρ (.tmp 80) = Value.bool true := k1
      have e2 : ρ (Operand.const (Value.bool false)) = (Value.bool false) := k2
      clear k0 k1 k2
      refine Par.val_k fun K hK => ?_
      unfold Par.val
      (go_simp; exact hK _ _ ⟨Ext.refl _, rfl⟩)
    refine ⟨⟨fun _ _ => trivial, fun ρ w' hX hG hk => ?_⟩, ?_⟩
    · exact Par.val_of_run rfl ⟨Ext.refl _, hk.1⟩
    refine ⟨⟨fun _ _ u hu => .inl hu, fun ρ w' hX hG hk => ?_⟩, ?_⟩
    · obtain ⟨k0, -⟩ := hk
      have e0 : ρ (.tmp 11) = Value.pointer (some ⟨b4, 0, none⟩) := k0
      clear k0
      refine Par.val_k fun K hK => ?_
      unfold Par.val
      (have c := hX.cell CU.out.1; have c2 := hX.cell CU.out.2.1; go_simp; exact hK _ _ ⟨Ext.refl _, rfl⟩)
    refine ⟨⟨fun _ _ u hu => .inl hu, fun ρ w' hX hG hk => ?_⟩, ?_⟩
    · obtain ⟨k0, -⟩ := hk
      have e0 : ρ (.tmp 83) = fv Y (.slice o4 Y.body.length c4') := k0
      clear k0
      refine Par.val_k fun K hK => ?_
      unfold Par.val
      (go_simp; exact hK _ _ ⟨Ext.alloc _ _, frs_lit w' _ Y _ (RU.out.ext hX)⟩)
    refine ⟨⟨fun _ _ u hu => .inl hu, fun ρ w' hX hG hk => ?_⟩, ?_⟩
    · obtain ⟨k0, k1, -⟩ := hk
      have e0 := k0
      have e1 : (fun v w' => Frs w' v [Y]) (ρ (.tmp 84)) w' := k1
      clear k0 k1
      refine Par.val_k fun K hK => ?_
      unfold Par.val
      refine Par.val_call Try.func17 (by kernel_rfl) rfl e0 ?_
      simp only [List.map_toArray, List.map_cons, List.map_nil]
      refine (own_any _ [Y] _ e1 (by simp)).mono ?_
      rintro e w2 ⟨r, rfl, hr, h2⟩
      exact ⟨_, rfl, hK _ _ ⟨h2, hr⟩⟩
    refine ⟨⟨fun _ _ u hu => .inl hu, fun ρ w' hX hG hk => ?_⟩, ?_⟩
    · obtain ⟨k0, -⟩ := hk
      have e0 : ρ (.tmp 14) = Value.pointer (some ⟨b5, 0, none⟩) := k0
      clear k0
      refine Par.val_k fun K hK => ?_
      unfold Par.val
      (have c := hX.cell CV.out.1; have c2 := hX.cell CV.out.2.1; go_simp; exact hK _ _ ⟨Ext.refl _, rfl⟩)
    refine ⟨⟨fun _ _ u hu => .inl hu, fun ρ w' hX hG hk => ?_⟩, ?_⟩
    · obtain ⟨k0, -⟩ := hk
      have e0 : ρ (.tmp 86) = fv Y (.slice o5 Y.body.length c5') := k0
      clear k0
      refine Par.val_k fun K hK => ?_
      unfold Par.val
      (go_simp; exact hK _ _ ⟨Ext.alloc _ _, frs_lit w' _ Y _ (RV.out.ext hX)⟩)
    refine ⟨⟨fun _ _ u hu => .inl hu, fun ρ w' hX hG hk => ?_⟩, ?_⟩
    · obtain ⟨k0, k1, k2, -⟩ := hk
      have e0 := k0
      have e1 : (fun v w' => Frs w' v [Y]) (ρ (.tmp 85)) w' := k1
      have e2 : (fun v w' => Frs w' v [Y]) (ρ (.tmp 87)) w' := k2
      clear k0 k1 k2
      refine Par.val_k fun K hK => ?_
      unfold Par.val
      refine Par.val_call Try.func16 (by kernel_rfl) rfl e0 ?_
      simp only [List.map_toArray, List.map_cons, List.map_nil]
      refine (rsames_any _ _ [Y] [Y] _ e1 e2 (by simp) (by simp)).mono ?_
      rintro e w2 ⟨rfl, h2⟩
      exact ⟨_, rfl, hK _ _ ⟨h2, (congrArg Value.bool HS1.out)⟩⟩
    refine ⟨⟨fun _ _ => trivial, fun ρ w' hX hG hk => ?_⟩, ?_⟩
    · obtain ⟨k0, k1, k2, -⟩ := hk
      have e0 : ρ (.tmp 82) = Value.bool true := k0
      have e1 : ρ (.tmp 88) = Value.bool true := k1
      have e2 : ρ (Operand.const (Value.bool false)) = (Value.bool false) := k2
      clear k0 k1 k2
      refine Par.val_k fun K hK => ?_
      unfold Par.val
      (go_simp; exact hK _ _ ⟨Ext.refl _, rfl⟩)
    refine ⟨⟨fun _ _ => trivial, fun ρ w' hX hG hk => ?_⟩, ?_⟩
    · exact Par.val_of_run rfl ⟨Ext.refl _, hk.1⟩
    refine ⟨⟨fun _ _ u hu => .inl hu, fun ρ w' hX hG hk => ?_⟩, ?_⟩
    · exact Par.val_of_run rfl ⟨Ext.refl _, hk.1⟩
    refine ⟨⟨fun _ _ u hu => .inl hu, fun ρ w' hX hG hk => ?_⟩, ?_⟩
    · exact Par.val_of_run rfl ⟨Ext.refl _, hk.1⟩
    refine ⟨⟨fun _ _ u hu => .inl hu, fun ρ w' hX hG hk => ?_⟩, ?_⟩
    · obtain ⟨k0, k1, -⟩ := hk
      have e0 : ρ (.tmp 91) = Value.int IntKind.i64 (n : Int) := k0
      have e1 : ρ (.tmp 92) = Value.int IntKind.i64 (n : Int) := k1
      clear k0 k1
      refine Par.val_k fun K hK => ?_
      unfold Par.val
      (go_simp; exact hK _ _ ⟨Ext.refl _, rfl⟩)
    refine ⟨⟨fun _ _ => trivial, fun ρ w' hX hG hk => ?_⟩, ?_⟩
    · obtain ⟨k0, k1, k2, -⟩ := hk
      have e0 : ρ (.tmp 90) = Value.bool true := k0
      have e1 : ρ (.tmp 93) = Value.bool true := k1
      have e2 : ρ (Operand.const (Value.bool false)) = (Value.bool false) := k2
      clear k0 k1 k2
      refine Par.val_k fun K hK => ?_
      unfold Par.val
      (go_simp; exact hK _ _ ⟨Ext.refl _, rfl⟩)
    refine ⟨⟨fun _ _ => trivial, fun ρ w' hX hG hk => ?_⟩, ?_⟩
    · exact Par.val_of_run rfl ⟨Ext.refl _, hk.1⟩
    refine ⟨⟨fun _ _ u hu => .inl hu, fun ρ w' hX hG hk => ?_⟩, ?_⟩
    · exact Par.val_of_run rfl ⟨Ext.refl _, hk.1⟩
    refine ⟨⟨fun _ _ u hu => .inl hu, fun ρ w' hX hG hk => ?_⟩, ?_⟩
    · exact Par.val_of_run rfl ⟨Ext.refl _, hk.1⟩
    refine ⟨⟨fun _ _ u hu => .inl hu, fun ρ w' hX hG hk => ?_⟩, ?_⟩
    · obtain ⟨k0, k1, -⟩ := hk
      have e0 : ρ (.tmp 96) = Value.int IntKind.i64 er := k0
      have e1 : ρ (.tmp 97) = Value.int IntKind.i64 er := k1
      clear k0 k1
      refine Par.val_k fun K hK => ?_
      unfold Par.val
      (go_simp; exact hK _ _ ⟨Ext.refl _, rfl⟩)
    refine ⟨⟨fun _ _ => trivial, fun ρ w' hX hG hk => ?_⟩, ?_⟩
    · obtain ⟨k0, k1, k2, -⟩ := hk
      have e0 : ρ (.tmp 95) = Value.bool true := k0
      have e1 : ρ (.tmp 98) = Value.bool true := k1
      have e2 : ρ (Operand.const (Value.bool false)) = (Value.bool false) := k2
      clear k0 k1 k2
      refine Par.val_k fun K hK => ?_
      unfold Par.val
      (go_simp; exact hK _ _ ⟨Ext.refl _, rfl⟩)
    refine ⟨⟨fun _ _ => trivial, fun ρ w' hX hG hk => ?_⟩, ?_⟩
    · exact Par.val_of_run rfl ⟨Ext.refl _, hk.1⟩
    refine ⟨⟨fun _ _ u hu => .inl hu, fun ρ w' hX hG hk => ?_⟩, ?_⟩
    · exact Par.val_of_run rfl ⟨Ext.refl _, hk.1⟩
    refine ⟨⟨fun _ _ u hu => .inl hu, fun ρ w' hX hG hk => ?_⟩, ?_⟩
    · obtain ⟨k0, k1, -⟩ := hk
      have e0 := k0
      have e1 : ρ (.tmp 101) = Value.slice o6 la.length c6' := k1
      clear k0 k1
      refine Par.val_k fun K hK => ?_
      unfold Par.val
      refine Par.val_call Try.func17 (by kernel_rfl) rfl e0 ?_
      simp only [List.map_toArray, List.map_cons, List.map_nil, e1]
      refine (own_any _ la _ (L6b.out.ext hX) hlal).mono ?_
      rintro e w2 ⟨r, rfl, hr, h2⟩
      exact ⟨_, rfl, hK _ _ ⟨h2, hr⟩⟩
    refine ⟨⟨fun _ _ u hu => .inl hu, fun ρ w' hX hG hk => ?_⟩, ?_⟩
    · exact Par.val_of_run rfl ⟨Ext.refl _, hk.1⟩
    refine ⟨⟨fun _ _ u hu => .inl hu, fun ρ w' hX hG hk => ?_⟩, ?_⟩
    · obtain ⟨k0, k1, k2, -⟩ := hk
      have e0 := k0
      have e1 : (fun v w' => Frs w' v la) (ρ (.tmp 102)) w' := k1
      have e2 : ρ (.tmp 103) = Value.slice o7 la.length c7' := k2
      clear k0 k1 k2
      refine Par.val_k fun K hK => ?_
      unfold Par.val
      refine Par.val_call Try.func16 (by kernel_rfl) rfl e0 ?_
      simp only [List.map_toArray, List.map_cons, List.map_nil, e2]
      refine (rsames_any _ _ la la _ e1 (L7.out.ext hX) hlal hlal).mono ?_
      rintro e w2 ⟨rfl, h2⟩
      exact ⟨_, rfl, hK _ _ ⟨h2, (congrArg Value.bool HS2.out)⟩⟩
    refine ⟨⟨fun _ _ => trivial, fun ρ w' hX hG hk => ?_⟩, ?_⟩
    · obtain ⟨k0, k1, k2, -⟩ := hk
      have e0 : ρ (.tmp 100) = Value.bool true := k0
      have e1 : ρ (.tmp 104) = Value.bool true := k1
      have e2 : ρ (Operand.const (Value.bool false)) = (Value.bool false) := k2
      clear k0 k1 k2
      refine Par.val_k fun K hK => ?_
      unfold Par.val
      (go_simp; exact hK _ _ ⟨Ext.refl _, rfl⟩)
    refine ⟨⟨fun _ _ => trivial, fun ρ w' hX hG hk => ?_⟩, ?_⟩
    · exact Par.val_of_run rfl ⟨Ext.refl _, hk.1⟩
    refine ⟨⟨fun _ _ u hu => .inl hu, fun ρ w' hX hG hk => ?_⟩, ?_⟩
    · exact Par.val_of_run rfl ⟨Ext.refl _, hk.1⟩
    refine ⟨⟨fun _ _ u hu => .inl hu, fun ρ w' hX hG hk => ?_⟩, ?_⟩
    · exact Par.val_of_run rfl ⟨Ext.refl _, hk.1⟩
    refine ⟨⟨fun _ _ u hu => .inl hu, fun ρ w' hX hG hk => ?_⟩, ?_⟩
    · obtain ⟨k0, k1, -⟩ := hk
      have e0 : ρ (.tmp 107) = Value.int IntKind.i64 (na : Int) := k0
      have e1 : ρ (.tmp 108) = Value.int IntKind.i64 (na : Int) := k1
      clear k0 k1
      refine Par.val_k fun K hK => ?_
      unfold Par.val
      (go_simp; exact hK _ _ ⟨Ext.refl _, rfl⟩)
    refine ⟨⟨fun _ _ => trivial, fun ρ w' hX hG hk => ?_⟩, ?_⟩
    · obtain ⟨k0, k1, k2, -⟩ := hk
      have e0 : ρ (.tmp 106) = Value.bool true := k0
      have e1 : ρ (.tmp 109) = Value.bool true := k1
      have e2 : ρ (Operand.const (Value.bool false)) = (Value.bool false) := k2
      clear k0 k1 k2
      refine Par.val_k fun K hK => ?_
      unfold Par.val
      (go_simp; exact hK _ _ ⟨Ext.refl _, rfl⟩)
    refine ⟨⟨fun _ _ => trivial, fun ρ w' hX hG hk => ?_⟩, ?_⟩
    · exact Par.val_of_run rfl ⟨Ext.refl _, hk.1⟩
    refine ⟨⟨fun _ _ u hu => .inl hu, fun ρ w' hX hG hk => ?_⟩, ?_⟩
    · exact Par.val_of_run rfl ⟨Ext.refl _, hk.1⟩
    refine ⟨⟨fun _ _ u hu => .inl hu, fun ρ w' hX hG hk => ?_⟩, ?_⟩
    · exact Par.val_of_run rfl ⟨Ext.refl _, hk.1⟩
    refine ⟨⟨fun _ _ u hu => .inl hu, fun ρ w' hX hG hk => ?_⟩, ?_⟩
    · obtain ⟨k0, k1, -⟩ := hk
      have e0 : ρ (.tmp 112) = Value.int IntKind.i64 ea := k0
      have e1 : ρ (.tmp 113) = Value.int IntKind.i64 ea := k1
      clear k0 k1
      refine Par.val_k fun K hK => ?_
      unfold Par.val
      (go_simp; exact hK _ _ ⟨Ext.refl _, rfl⟩)
    refine ⟨⟨fun _ _ => trivial, fun ρ w' hX hG hk => ?_⟩, ?_⟩
    · obtain ⟨k0, k1, k2, -⟩ := hk
      have e0 : ρ (.tmp 111) = Value.bool true := k0
      have e1 : ρ (.tmp 114) = Value.bool true := k1
      have e2 : ρ (Operand.const (Value.bool false)) = (Value.bool false) := k2
      clear k0 k1 k2
      refine Par.val_k fun K hK => ?_
      unfold Par.val
      (go_simp; exact hK _ _ ⟨Ext.refl _, rfl⟩)
    refine ⟨⟨fun _ _ => trivial, fun ρ w' hX hG hk => ?_⟩, ?_⟩
    · exact Par.val_of_run rfl ⟨Ext.refl _, hk.1⟩
    refine ⟨⟨fun _ _ u hu => .inl hu, fun ρ w' hX hG hk => ?_⟩, ?_⟩
    · obtain ⟨k0, -⟩ := hk
      have e0 : ρ (.tmp 3) = Value.pointer (some ⟨w.heap.size, 0, none⟩) := k0
      clear k0
      refine Par.val_k fun K hK => ?_
      unfold Par.val
      (have c := hX.cell CX.out.1; have c2 := hX.cell CX.out.2.1; go_simp; exact hK _ _ ⟨Ext.refl _, rfl⟩)
    refine ⟨⟨fun _ _ u hu => .inl hu, fun ρ w' hX hG hk => ?_⟩, ?_⟩
    · obtain ⟨k0, -⟩ := hk
      have e0 : ρ (.tmp 4) = Value.pointer (some ⟨w.heap.size + 1, 0, none⟩) := k0
      clear k0
      refine Par.val_k fun K hK => ?_
      unfold Par.val
      (have c := hX.cell CY.out.1; have c2 := hX.cell CY.out.2.1; go_simp; exact hK _ _ ⟨Ext.refl _, rfl⟩)
    refine ⟨⟨fun _ _ u hu => .inl hu, fun ρ w' hX hG hk => ?_⟩, ?_⟩
    · obtain ⟨k0, k1, k2, -⟩ := hk
      have e0 := k0
      have e1 : ρ (.tmp 117) = fv x (.slice ao x.body.length cap) := k1
      have e2 : ρ (.tmp 118) = fv y (.slice bo y.body.length cbp) := k2
      clear k0 k1 k2
      refine Par.val_k fun K hK => ?_
      unfold Par.val
      refine Par.val_call Try.func18 (by kernel_rfl) rfl e0 ?_
      simp only [List.map_toArray, List.map_cons, List.map_nil, e1, e2]
      refine (same_any x y _ _ _ (BX.out.ext hX) (BY.out.ext hX)).mono ?_
      rintro e w2 ⟨rfl, h2⟩
      exact ⟨_, rfl, hK _ _ ⟨h2, (congrArg Value.bool HBS.out)⟩⟩
    refine ⟨⟨fun _ _ u hu => .inl hu, fun ρ w' hX hG hk => ?_⟩, ?_⟩
    · obtain ⟨k0, -⟩ := hk
      have e0 : ρ (.tmp 3) = Value.pointer (some ⟨w.heap.size, 0, none⟩) := k0
      clear k0
      refine Par.val_k fun K hK => ?_
      unfold Par.val
      (have c := hX.cell CX.out.1; have c2 := hX.cell CX.out.2.1; go_simp; exact hK _ _ ⟨Ext.refl _, rfl⟩)
    refine ⟨⟨fun _ _ u hu => .inl hu, fun ρ w' hX hG hk => ?_⟩, ?_⟩
    · obtain ⟨k0, -⟩ := hk
      have e0 : ρ (.tmp 120) = fv x (.slice ao x.body.length cap) := k0
      clear k0
      refine Par.val_k fun K hK => ?_
      unfold Par.val
      (go_simp; exact hK _ _ ⟨Ext.alloc _ _, frs_lit w' _ x _ (BX.out.ext hX)⟩)
    refine ⟨⟨fun _ _ u hu => .inl hu, fun ρ w' hX hG hk => ?_⟩, ?_⟩
    · obtain ⟨k0, k1, -⟩ := hk
      have e0 := k0
      have e1 : (fun v w' => Frs w' v [x]) (ρ (.tmp 121)) w' := k1
      clear k0 k1
      refine Par.val_k fun K hK => ?_
      unfold Par.val
      refine Par.val_call Try.func17 (by kernel_rfl) rfl e0 ?_
      simp only [List.map_toArray, List.map_cons, List.map_nil]
      refine (own_any _ [x] _ e1 (by simp)).mono ?_
      rintro e w2 ⟨r, rfl, hr, h2⟩
      exact ⟨_, rfl, hK _ _ ⟨h2, hr⟩⟩
    refine ⟨⟨fun _ _ u hu => .inl hu, fun ρ w' hX hG hk => ?_⟩, ?_⟩
    · obtain ⟨k0, -⟩ := hk
      have e0 : ρ (.tmp 4) = Value.pointer (some ⟨w.heap.size + 1, 0, none⟩) := k0
      clear k0
      refine Par.val_k fun K hK => ?_
      unfold Par.val
      (have c := hX.cell CY.out.1; have c2 := hX.cell CY.out.2.1; go_simp; exact hK _ _ ⟨Ext.refl _, rfl⟩)
    refine ⟨⟨fun _ _ u hu => .inl hu, fun ρ w' hX hG hk => ?_⟩, ?_⟩
    · obtain ⟨k0, -⟩ := hk
      have e0 : ρ (.tmp 123) = fv y (.slice bo y.body.length cbp) := k0
      clear k0
      refine Par.val_k fun K hK => ?_
      unfold Par.val
      (go_simp; exact hK _ _ ⟨Ext.alloc _ _, frs_lit w' _ y _ (BY.out.ext hX)⟩)
    refine ⟨⟨fun _ _ u hu => .inl hu, fun ρ w' hX hG hk => ?_⟩, ?_⟩
    · obtain ⟨k0, k1, -⟩ := hk
      have e0 := k0
      have e1 : (fun v w' => Frs w' v [y]) (ρ (.tmp 124)) w' := k1
      clear k0 k1
      refine Par.val_k fun K hK => ?_
      unfold Par.val
      refine Par.val_call Try.func17 (by kernel_rfl) rfl e0 ?_
      simp only [List.map_toArray, List.map_cons, List.map_nil]
      refine (own_any _ [y] _ e1 (by simp)).mono ?_
      rintro e w2 ⟨r, rfl, hr, h2⟩
      exact ⟨_, rfl, hK _ _ ⟨h2, hr⟩⟩
    refine ⟨⟨fun _ _ u hu => .inl hu, fun ρ w' hX hG hk => ?_⟩, ?_⟩
    · obtain ⟨k0, k1, k2, -⟩ := hk
      have e0 := k0
      have e1 : (fun v w' => Frs w' v [x]) (ρ (.tmp 122)) w' := k1
      have e2 : (fun v w' => Frs w' v [y]) (ρ (.tmp 125)) w' := k2
      clear k0 k1 k2
      refine Par.val_k fun K hK => ?_
      unfold Par.val
      refine Par.val_call Try.func16 (by kernel_rfl) rfl e0 ?_
      simp only [List.map_toArray, List.map_cons, List.map_nil]
      refine (rsames_any _ _ [x] [y] _ e1 e2 (by simp) (by simp)).mono ?_
      rintro e w2 ⟨rfl, h2⟩
      exact ⟨_, rfl, hK _ _ ⟨h2, (congrArg Value.bool HBS2.out)⟩⟩
    refine ⟨⟨fun _ _ u hu => .inl hu, fun ρ w' hX hG hk => ?_⟩, ?_⟩
    · obtain ⟨k0, k1, -⟩ := hk
      have e0 : ρ (.tmp 119) = Value.bool BS := k0
      have e1 : ρ (.tmp 126) = Value.bool BS := k1
      clear k0 k1
      refine Par.val_k fun K hK => ?_
      unfold Par.val
      (go_simp; exact hK _ _ ⟨Ext.refl _, rfl⟩)
    refine ⟨⟨fun _ _ => trivial, fun ρ w' hX hG hk => ?_⟩, ?_⟩
    · obtain ⟨k0, k1, k2, -⟩ := hk
      have e0 : ρ (.tmp 116) = Value.bool true := k0
      have e1 : ρ (.tmp 127) = Value.bool true := k1
      have e2 : ρ (Operand.const (Value.bool false)) = (Value.bool false) := k2
      clear k0 k1 k2
      refine Par.val_k fun K hK => ?_
      unfold Par.val
      (go_simp; exact hK _ _ ⟨Ext.refl _, rfl⟩)
    refine ⟨⟨fun _ _ => trivial, fun ρ w' hX hG hk => ?_⟩, ?_⟩
    · exact Par.val_of_run rfl ⟨Ext.refl _, hk.1⟩
    trivial
  intro a' w' inv
  have hX := inv.ext
  have q74 : a'.tmps.getD 74 undef = Value.slice o2 fb.length c2' := inv.done 0 _ 74 rfl rfl rfl
  have q75 : a'.tmps.getD 75 undef = Value.slice o3 fb.length c3' := inv.done 1 _ 75 rfl rfl rfl
  have q76 : a'.tmps.getD 76 undef = Value.bool true := inv.done 2 _ 76 rfl rfl rfl
  have q77 : a'.tmps.getD 77 undef = Value.bool true := inv.done 3 _ 77 rfl rfl rfl
  have q78 : a'.tmps.getD 78 undef = Value.int IntKind.i64 fe := inv.done 4 _ 78 rfl rfl rfl
  have q79 : a'.tmps.getD 79 undef = Value.int IntKind.i64 fe := inv.done 5 _ 79 rfl rfl rfl
  have q80 : a'.tmps.getD 80 undef = Value.bool true := inv.done 6 _ 80 rfl rfl rfl
  have q81 : a'.tmps.getD 81 undef = Value.bool true := inv.done 7 _ 81 rfl rfl rfl
  have q82 : a'.tmps.getD 82 undef = Value.bool true := inv.done 8 _ 82 rfl rfl rfl
  have q83 : a'.tmps.getD 83 undef = fv Y (.slice o4 Y.body.length c4') := inv.done 9 _ 83 rfl rfl rfl
  have q84 : (fun v w' => Frs w' v [Y]) (a'.tmps.getD 84 undef) w' := inv.done 10 _ 84 rfl rfl rfl
  have q85 : (fun v w' => Frs w' v [Y]) (a'.tmps.getD 85 undef) w' := inv.done 11 _ 85 rfl rfl rfl
  have q86 : a'.tmps.getD 86 undef = fv Y (.slice o5 Y.body.length c5') := inv.done 12 _ 86 rfl rfl rfl
  have q87 : (fun v w' => Frs w' v [Y]) (a'.tmps.getD 87 undef) w' := inv.done 13 _ 87 rfl rfl rfl
  have q88 : a'.tmps.getD 88 undef = Value.bool true := inv.done 14 _ 88 rfl rfl rfl
  have q89 : a'.tmps.getD 89 undef = Value.bool true := inv.done 15 _ 89 rfl rfl rfl
  have q90 : a'.tmps.getD 90 undef = Value.bool true := inv.done 16 _ 90 rfl rfl rfl
  have q91 : a'.tmps.getD 91 undef = Value.int IntKind.i64 (n : Int) := inv.done 17 _ 91 rfl rfl rfl
  have q92 : a'.tmps.getD 92 undef = Value.int IntKind.i64 (n : Int) := inv.done 18 _ 92 rfl rfl rfl
  have q93 : a'.tmps.getD 93 undef = Value.bool true := inv.done 19 _ 93 rfl rfl rfl
  have q94 : a'.tmps.getD 94 undef = Value.bool true := inv.done 20 _ 94 rfl rfl rfl
  have q95 : a'.tmps.getD 95 undef = Value.bool true := inv.done 21 _ 95 rfl rfl rfl
  have q96 : a'.tmps.getD 96 undef = Value.int IntKind.i64 er := inv.done 22 _ 96 rfl rfl rfl
  have q97 : a'.tmps.getD 97 undef = Value.int IntKind.i64 er := inv.done 23 _ 97 rfl rfl rfl
  have q98 : a'.tmps.getD 98 undef = Value.bool true := inv.done 24 _ 98 rfl rfl rfl
  have q99 : a'.tmps.getD 99 undef = Value.bool true := inv.done 25 _ 99 rfl rfl rfl
  have q100 : a'.tmps.getD 100 undef = Value.bool true := inv.done 26 _ 100 rfl rfl rfl
  have q101 : a'.tmps.getD 101 undef = Value.slice o6 la.length c6' := inv.done 27 _ 101 rfl rfl rfl
  have q102 : (fun v w' => Frs w' v la) (a'.tmps.getD 102 undef) w' := inv.done 28 _ 102 rfl rfl rfl
  have q103 : a'.tmps.getD 103 undef = Value.slice o7 la.length c7' := inv.done 29 _ 103 rfl rfl rfl
  have q104 : a'.tmps.getD 104 undef = Value.bool true := inv.done 30 _ 104 rfl rfl rfl
  have q105 : a'.tmps.getD 105 undef = Value.bool true := inv.done 31 _ 105 rfl rfl rfl
  have q106 : a'.tmps.getD 106 undef = Value.bool true := inv.done 32 _ 106 rfl rfl rfl
  have q107 : a'.tmps.getD 107 undef = Value.int IntKind.i64 (na : Int) := inv.done 33 _ 107 rfl rfl rfl
  have q108 : a'.tmps.getD 108 undef = Value.int IntKind.i64 (na : Int) := inv.done 34 _ 108 rfl rfl rfl
  have q109 : a'.tmps.getD 109 undef = Value.bool true := inv.done 35 _ 109 rfl rfl rfl
  have q110 : a'.tmps.getD 110 undef = Value.bool true := inv.done 36 _ 110 rfl rfl rfl
  have q111 : a'.tmps.getD 111 undef = Value.bool true := inv.done 37 _ 111 rfl rfl rfl
  have q112 : a'.tmps.getD 112 undef = Value.int IntKind.i64 ea := inv.done 38 _ 112 rfl rfl rfl
  have q113 : a'.tmps.getD 113 undef = Value.int IntKind.i64 ea := inv.done 39 _ 113 rfl rfl rfl
  have q114 : a'.tmps.getD 114 undef = Value.bool true := inv.done 40 _ 114 rfl rfl rfl
  have q115 : a'.tmps.getD 115 undef = Value.bool true := inv.done 41 _ 115 rfl rfl rfl
  have q116 : a'.tmps.getD 116 undef = Value.bool true := inv.done 42 _ 116 rfl rfl rfl
  have q117 : a'.tmps.getD 117 undef = fv x (.slice ao x.body.length cap) := inv.done 43 _ 117 rfl rfl rfl
  have q118 : a'.tmps.getD 118 undef = fv y (.slice bo y.body.length cbp) := inv.done 44 _ 118 rfl rfl rfl
  have q119 : a'.tmps.getD 119 undef = Value.bool BS := inv.done 45 _ 119 rfl rfl rfl
  have q120 : a'.tmps.getD 120 undef = fv x (.slice ao x.body.length cap) := inv.done 46 _ 120 rfl rfl rfl
  have q121 : (fun v w' => Frs w' v [x]) (a'.tmps.getD 121 undef) w' := inv.done 47 _ 121 rfl rfl rfl
  have q122 : (fun v w' => Frs w' v [x]) (a'.tmps.getD 122 undef) w' := inv.done 48 _ 122 rfl rfl rfl
  have q123 : a'.tmps.getD 123 undef = fv y (.slice bo y.body.length cbp) := inv.done 49 _ 123 rfl rfl rfl
  have q124 : (fun v w' => Frs w' v [y]) (a'.tmps.getD 124 undef) w' := inv.done 50 _ 124 rfl rfl rfl
  have q125 : (fun v w' => Frs w' v [y]) (a'.tmps.getD 125 undef) w' := inv.done 51 _ 125 rfl rfl rfl
  have q126 : a'.tmps.getD 126 undef = Value.bool BS := inv.done 52 _ 126 rfl rfl rfl
  have q127 : a'.tmps.getD 127 undef = Value.bool true := inv.done 53 _ 127 rfl rfl rfl
  have q128 : a'.tmps.getD 128 undef = Value.bool true := inv.done 54 _ 128 rfl rfl rfl
  have q6 : a'.tmps.getD 6 undef = Value.bool true := inv.done 55 _ 6 rfl rfl rfl
  clear inv
  simp only [List.filterMap_cons, List.filterMap_nil, Par.putAll, Act.put, List.setIfInBounds_toArray, List.set_cons_succ, List.set_cons_zero, q74, q75, q76, q77, q78, q79, q80, q81, q82, q83, q86, q88, q89, q90, q91, q92, q93, q94, q95, q96, q97, q98, q99, q100, q101, q103, q104, q105, q106, q107, q108, q109, q110, q111, q112, q113, q114, q115, q116, q117, q118, q119, q120, q123, q126, q127, q128, q6]
  clear q74 q75 q76 q77 q78 q79 q80 q81 q82 q83 q86 q88 q89 q90 q91 q92 q93 q94 q95 q96 q97 q98 q99 q100 q101 q103 q104 q105 q106 q107 q108 q109 q110 q111 q112 q113 q114 q115 q116 q117 q118 q119 q120 q123 q126 q127 q128 q6
  generalize a'.tmps.getD 84 undef = u84 at *
  generalize a'.tmps.getD 85 undef = u85 at *
  generalize a'.tmps.getD 87 undef = u87 at *
  generalize a'.tmps.getD 102 undef = u102 at *
  generalize a'.tmps.getD 121 undef = u121 at *
  generalize a'.tmps.getD 122 undef = u122 at *
  generalize a'.tmps.getD 124 undef = u124 at *
  generalize a'.tmps.getD 125 undef = u125 at *
  clear a'
  have hE8 := hE7.trans hX
  go_wp2
  go_ret
  exact ⟨rfl, hE8⟩
end Go.Proofs.Ytbecahknondmeaa
