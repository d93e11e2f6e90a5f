/- RecordTells. -/
import Derived.Test.YtafdandnbbbdfaaDoorLaw05
import Derived.Test.YtafdandnbbbdfaaDoorRecJ
namespace Go.Proofs.YtafdandnbbbdfaaDoor
open Go.RowKit Go.Tum Go.Tum.Crc Go.Tum.Vint

theorem rcs_lit (w : World) (T : Nat) (x : Rc) (r : Value) (h : Vec uv w r x.n) : Rcs (w.alloc (.cells #[.int .i64 x.kind, r, .string (str x.text)] T)) (.slice (some ⟨w.heap.size, 0, none⟩) 1 1) [x] := by
  refine ⟨[(x, r)], rfl, ⟨fun _ _ => rfl, rfl, some ⟨w.heap.size, 0, none⟩, 1, rfl, Nat.le_refl _, by simp [maxLen], (fun h => by cases h), fun a ha j u hu => ?_⟩, ?_⟩
  · cases ha
    have e1 : (⟨w.heap.size, 0, none⟩ : Addr).add j = ⟨w.heap.size, j, none⟩ := by unfold Addr.add; split <;> simp_all
    rw [e1, cell_of_row _ _ _ _ _ _ (heap_alloc_new w _)]
    simpa using hu
  · intro p hp
    simp at hp; subst hp
    exact h.ext (Ext.alloc _ _)
theorem recsame_one (x y : Rc) : recsSame [x] [y] = recSame x y := by simp [recsSame, recSame]

set_option maxRecDepth 100000 in
set_option maxHeartbeats 1000000 in
theorem recordTells_law (A B : Rc) (va vb : Value) (x : Fr) (vx : Value) (w : World) (ha : Vec uv w va A.n) (hb : Vec uv w vb B.n) (hx : Byt w vx x.body) (ht : Tab w) :
    Calls Tryd.prog 3 #[rv A va, rv B vb, fv x vx] w fun e w' => e = .returned (.bool true) ∧ Ext w w' := by
  obtain ⟨ao, ac, rfl, -⟩ := ha.open
  obtain ⟨bo, bc, rfl, -⟩ := hb.open
  obtain ⟨xo, xc, rfl, -⟩ := hx.open
  have HA := hid ha
  have HB := hid hb
  have HX := hid hx
  have HT := hid ht
  clear ha hb hx ht
  obtain ⟨LA, hLA⟩ : ∃ LA, largeB A = LA := ⟨_, rfl⟩
  obtain ⟨LB, hLB⟩ : ∃ LB, largeB B = LB := ⟨_, rfl⟩
  have HLA := hid hLA
  have HLB := hid hLB
  clear hLA hLB
  have hE1 := Ext.alloc w (.cells #[.int .i64 A.kind, .slice ao A.n.length ac, .string (str A.text)] 24)
  have hS1 : (w.alloc (.cells #[.int .i64 A.kind, .slice ao A.n.length ac, .string (str A.text)] 24)).heap.size = w.heap.size + 1 := by simp
  have hA := heap_alloc_new w (.cells #[.int .i64 A.kind, .slice ao A.n.length ac, .string (str A.text)] 24)
  go_enter Tryd.func3, Tryd.ntmps3
  go_wp2_with fail
  generalize w.alloc (.cells #[.int .i64 A.kind, .slice ao A.n.length ac, .string (str A.text)] 24) = W1 at *
  have hE2 := Ext.alloc W1 (.cells #[.int .i64 B.kind, .slice bo B.n.length bc, .string (str B.text)] 24)
  have hB := heap_alloc_new W1 (.cells #[.int .i64 B.kind, .slice bo B.n.length bc, .string (str B.text)] 24)
  have hS2 : (W1.alloc (.cells #[.int .i64 B.kind, .slice bo B.n.length bc, .string (str B.text)] 24)).heap.size = w.heap.size + 1 + 1 := by simp [hS1]
  rw [hS1] at hB
  generalize W1.alloc (.cells #[.int .i64 B.kind, .slice bo B.n.length bc, .string (str B.text)] 24) = W2 at *
  have hE3 := Ext.alloc W2 (.cells #[.int .u8 (x.kind.toNat : Int), .slice xo x.body.length xc] 27)
  have hC := heap_alloc_new W2 (.cells #[.int .u8 (x.kind.toNat : Int), .slice xo x.body.length xc] 27)
  rw [hS2] at hC
  generalize W2.alloc (.cells #[.int .u8 (x.kind.toNat : Int), .slice xo x.body.length xc] 27) = W3 at *
  have HE3 := hid (hE1.trans (hE2.trans hE3))
  have hob : ∀ W, Ext W3 W → W.heap[w.heap.size]? = some (.cells #[.int .i64 A.kind, .slice ao A.n.length ac, .string (str A.text)] 24) ∧ W.heap[w.heap.size + 1]? = some (.cells #[.int .i64 B.kind, .slice bo B.n.length bc, .string (str B.text)] 24) ∧
      W.heap[w.heap.size + 1 + 1]? = some (.cells #[.int .u8 (x.kind.toNat : Int), .slice xo x.body.length xc] 27) :=
    fun W h => ⟨h.obj (hE3.obj (hE2.obj hA)), h.obj (hE3.obj hB), h.obj hC⟩
  have HOB := hid hob
  have hfw : ∀ W, Ext W3 W → Ext w W := fun W h => HE3.out.trans h
  have HFW := hid hfw
  clear hE1 hE2 hE3 hS1 hS2 hA hB hC hob hfw
  refine (awake_any _ (HT.out.ext HE3.out)).mono ?_
  rintro e W4 ⟨rfl, hw⟩
  have HE4 := hid hw
  clear hw
  obtain ⟨a0, a1, a2⟩ := blk3 (HOB.out _ HE4.out).1
  go_wp2_with fail
  clear a0 a1 a2
  refine (large_any A _ _ (HA.out.ext (HFW.out _ HE4.out))).mono ?_
  rintro e W5 ⟨rfl, hw⟩
  rw [HLA.out]
  have HE5 := hid (HE4.out.trans hw)
  clear hw HE4
  cases LA with
  | true =>
    go_wp2
    go_ret
    exact ⟨rfl, HFW.out _ HE5.out⟩
  | false =>
    obtain ⟨b0, b1, b2⟩ := blk3 (HOB.out _ HE5.out).2.1
    go_wp2_with fail
    clear b0 b1 b2
    refine (large_any B _ _ (HB.out.ext (HFW.out _ HE5.out))).mono ?_
    rintro e W6 ⟨rfl, hw⟩
    rw [HLB.out]
    have HE6 := hid (HE5.out.trans hw)
    clear hw HE5
    cases LB with
    | true =>
      go_wp2
      go_ret
      exact ⟨rfl, HFW.out _ HE6.out⟩
    | false =>
      obtain ⟨c0, c1, -⟩ := blk2 (HOB.out _ HE6.out).2.2
      by_cases hlong : 1200 < x.body.length
      · have hd : decide ((1200 : Int) < x.body.length) = true := by simp; omega
        go_wp2
        go_ret
        exact ⟨rfl, HFW.out _ HE6.out⟩
      have hd : decide ((1200 : Int) < x.body.length) = false := by simp; omega
      obtain ⟨a0, a1, a2⟩ := blk3 (HOB.out _ HE6.out).1
      go_wp2_with fail
      clear a0 a1 a2 c0 c1 hd
      obtain ⟨P, pe, hP⟩ : ∃ P pe, recBytes A = (P, pe) := ⟨_, _, rfl⟩
      have HP := hid hP
      have h1 := bytes5_any A _ _ (HA.out.ext (HFW.out _ HE6.out)) (HT.out.ext (HFW.out _ HE6.out))
      rw [hP] at h1
      clear hP
      refine h1.mono ?_
      rintro e W7 ⟨p1, rfl, hp1, hw⟩
      clear h1
      simp only [] at hp1
      obtain ⟨po, pc, rfl, -⟩ := hp1.byt.open
      have HP7 := hid hp1.byt
      have HE7 := hid (HE6.out.trans hw)
      clear hw hp1 HE6
      obtain ⟨a0, a1, a2⟩ := blk3 (HOB.out _ HE7.out).1
      go_wp2_with fail
      clear a0 a1 a2
      have h1 := rbytes5_any A _ _ (HA.out.ext (HFW.out _ HE7.out))
      rw [HP.out] at h1
      refine h1.mono ?_
      rintro e W8 ⟨q1, rfl, hq1, hw⟩
      clear h1
      simp only [] at hq1
      obtain ⟨qo, qc, rfl, -⟩ := hq1.byt.open
      have HP8 := hid (HP7.out.ext hw)
      have HQ8 := hid hq1.byt
      have HE8 := hid (HE7.out.trans hw)
      clear hw hq1 HE7 HP7
      obtain ⟨c0, c1, -⟩ := blk2 (HOB.out _ HE8.out).2.2
      go_wp2_with fail
      clear c0 c1
      obtain ⟨Z, ze, hZ⟩ : ∃ Z ze, recRead x = (Z, ze) := ⟨_, _, rfl⟩
      have HZ := hid hZ
      have h1 := read5_any x _ _ (HX.out.ext (HFW.out _ HE8.out)) (HT.out.ext (HFW.out _ HE8.out))
      unfold ReadR5 at h1
      rw [hZ] at h1
      clear hZ
      refine h1.mono ?_
      rintro e W9 ⟨z1, rfl, hz1, hw⟩
      clear h1
      simp only [] at hz1
      obtain ⟨zo, zc, rfl, -⟩ := hz1.vec.open
      have HP9 := hid (HP8.out.ext hw)
      have HQ9 := hid (HQ8.out.ext hw)
      have HZ9 := hid hz1.vec
      have HE9 := hid (HE8.out.trans hw)
      clear hw hz1 HE8 HP8 HQ8
      have hw := Ext.alloc W9 (.cells #[.int .i64 Z.kind, .slice zo Z.n.length zc, .string (str Z.text)] 24)
      obtain ⟨c0, c1, -⟩ := blk2 (HOB.out _ (HE9.out.trans hw)).2.2
      have hD := heap_alloc_new W9 (.cells #[.int .i64 Z.kind, .slice zo Z.n.length zc, .string (str Z.text)] 24)
      go_wp2_with fail
      clear c0 c1
      obtain ⟨dN, hdN⟩ : ∃ dN, W9.heap.size = dN := ⟨_, rfl⟩
      rw [hdN] at hD ⊢
      generalize W9.alloc (.cells #[.int .i64 Z.kind, .slice zo Z.n.length zc, .string (str Z.text)] 24) = W10 at *
      have HP10 := hid (HP9.out.ext hw)
      have HQ10 := hid (HQ9.out.ext hw)
      have HZ10 := hid (HZ9.out.ext hw)
      have HE10 := hid (HE9.out.trans hw)
      have HD10 := hid hD
      clear hw HE9 HP9 HQ9 HZ9 hD hdN
      have h1 := rread5_any x _ _ (HX.out.ext (HFW.out _ HE10.out))
      unfold ReadR5 at h1
      rw [HZ.out] at h1
      refine h1.mono ?_
      rintro e W11 ⟨y1, rfl, hy1, hw⟩
      clear h1
      simp only [] at hy1
      obtain ⟨yo, yc, rfl, -⟩ := hy1.vec.open
      have hw2 := hw.trans (Ext.alloc W11 (.cells #[.int .i64 Z.kind, .slice yo Z.n.length yc, .string (str Z.text)] 30))
      have hF := heap_alloc_new W11 (.cells #[.int .i64 Z.kind, .slice yo Z.n.length yc, .string (str Z.text)] 30)
      have HY12 := hid (hy1.vec.ext (Ext.alloc W11 (.cells #[.int .i64 Z.kind, .slice yo Z.n.length yc, .string (str Z.text)] 30)))
      have HP12 := hid (HP10.out.ext hw2)
      have HQ12 := hid (HQ10.out.ext hw2)
      have HZ12 := hid (HZ10.out.ext hw2)
      have HE12 := hid (HE10.out.trans hw2)
      have HD12 := hid (blk3 (hw2.obj HD10.out))
      have HF12 := hid (blk3 hF)
      clear hw hw2 HE10 HP10 HQ10 HZ10 HD10 hF hy1
      go_wp2_with fail
      obtain ⟨fN, hfN⟩ : ∃ fN, W11.heap.size = fN := ⟨_, rfl⟩
      rw [hfN] at HF12 ⊢
      generalize W11.alloc (.cells #[.int .i64 Z.kind, .slice yo Z.n.length yc, .string (str Z.text)] 30) = W12 at *
      have HA12 := hid (HA.out.ext (HFW.out _ HE12.out))
      have HB12 := hid (HB.out.ext (HFW.out _ HE12.out))
      have HT12 := hid (HT.out.ext (HFW.out _ HE12.out))
      have KA := hid (blk3 (HOB.out _ HE12.out).1)
      have KB := hid (blk3 (HOB.out _ HE12.out).2.1)
      obtain ⟨RB, hRB⟩ : ∃ RB, rightB A = RB := ⟨_, rfl⟩
      obtain ⟨SB, hSB⟩ : ∃ SB, recSame A B = SB := ⟨_, rfl⟩
      have HRB := hid hRB
      have HSB := hid hSB
      have HS1 := hid (show recsSame [A] [B] = SB by rw [recsame_one]; exact hSB)
      have HZZ := hid (show recsSame [Z] [Z] = true by simp [recsSame])
      have HPP := hid (show (P == P) = true by simp)
      clear hRB hSB hfN
      refine Par.wp_region_par (l := [_, _, _, _, _, _, _, _, _, _, _, _, _, _, _, _, _, _, _, _, _, _, _, _, _, _, _, _, _, _, _, _, _, _, _, _, _, _, _, _, _, _]) rfl Ext (Par.VL [Par.EQ (rv A (.slice ao A.n.length ac)), Par.EQ (Value.bool RB), Par.EQ (rv A (.slice ao A.n.length ac)), Par.EQ (Value.bool RB), Par.EQ (Value.bool true), Par.EQ (Value.bool true), Par.EQ (Value.slice po P.length pc), Par.EQ (Value.slice qo P.length qc), Par.EQ (Value.bool true), Par.EQ (Value.bool true), Par.EQ (Value.bool true), Par.EQ (Value.int IntKind.i64 pe), Par.EQ (Value.int IntKind.i64 pe), Par.EQ (Value.bool true), Par.EQ (Value.bool true), Par.EQ (Value.bool true), Par.EQ (rv Z (.slice zo Z.n.length zc)), (fun v w' => Rcs w' v [Z]), (fun v w' => Rcs w' v [Z]), Par.EQ (rv Z (.slice yo Z.n.length yc)), (fun v w' => Rcs w' v [Z]), Par.EQ (Value.bool true), Par.EQ (Value.bool true), Par.EQ (Value.bool true), Par.EQ (Value.int IntKind.i64 ze), Par.EQ (Value.int IntKind.i64 ze), Par.EQ (Value.bool true), Par.EQ (Value.bool true), Par.EQ (Value.bool true), Par.EQ (rv A (.slice ao A.n.length ac)), Par.EQ (rv B (.slice bo B.n.length bc)), Par.EQ (Value.bool SB), Par.EQ (rv A (.slice ao A.n.length ac)), (fun v w' => Rcs w' v [A]), (fun v w' => Rcs w' v [A]), Par.EQ (rv B (.slice bo B.n.length bc)), (fun v w' => Rcs w' v [B]), (fun v w' => Rcs w' v [B]), Par.EQ (Value.bool SB), Par.EQ (Value.bool true), Par.EQ (Value.bool true), Par.EQ (Value.bool true)]) (by kernel_rfl) Ext.refl (fun _ _ _ h1 h2 => Ext.trans h1 h2) (Ext.draw _) (Par.VL_stab ?_) ?_ ?_
      · simp only [List.forall_mem_cons, List.not_mem_nil, false_implies, implies_true, and_true]
        refine ⟨fun _ _ _ _ h => h, fun _ _ _ _ h => h, fun _ _ _ _ h => h, fun _ _ _ _ h => h, fun _ _ _ _ h => h, fun _ _ _ _ h => h, fun _ _ _ _ h => h, fun _ _ _ _ h => h, fun _ _ _ _ h => h, fun _ _ _ _ h => h, fun _ _ _ _ h => h, fun _ _ _ _ h => h, fun _ _ _ _ h => h, fun _ _ _ _ h => h, fun _ _ _ _ h => h, fun _ _ _ _ h => h, fun _ _ _ _ h => h, fun v a b k h => h.ext k, fun v a b k h => h.ext k, fun _ _ _ _ h => h, fun v a b k h => h.ext k, fun _ _ _ _ h => h, fun _ _ _ _ h => h, fun _ _ _ _ h => h, fun _ _ _ _ h => h, fun _ _ _ _ h => h, fun _ _ _ _ h => h, fun _ _ _ _ h => h, fun _ _ _ _ h => h, fun _ _ _ _ h => h, fun _ _ _ _ h => h, fun _ _ _ _ h => h, fun _ _ _ _ h => h, fun v a b k h => h.ext k, fun v a b k h => h.ext k, fun _ _ _ _ h => h, fun v a b k h => h.ext k, fun v a b k h => h.ext k, fun _ _ _ _ h => h, fun _ _ _ _ h => h, fun _ _ _ _ h => h, fun _ _ _ _ h => h⟩
      · refine ⟨⟨fun _ _ => trivial, fun ρ w' hX hG hk => ?_⟩, ?_⟩
        · obtain ⟨k0, -⟩ := hk
          have e0 : ρ (.tmp 3) = Value.pointer (some ⟨w.heap.size, 0, none⟩) := k0
          clear k0
          refine Par.val_k fun K hK => ?_
          unfold Par.val
          (have c0 := hX.cell KA.out.1; have c1 := hX.cell KA.out.2.1; have c2 := hX.cell KA.out.2.2; go_simp; exact hK _ _ ⟨Ext.refl _, rfl⟩)
        refine ⟨⟨fun _ _ => trivial, fun ρ w' hX hG hk => ?_⟩, ?_⟩
        · obtain ⟨k0, k1, -⟩ := hk
          have e0 := k0
          have e1 : ρ (.tmp 49) = rv A (.slice ao A.n.length ac) := k1
          clear k0 k1
          refine Par.val_k fun K hK => ?_
          unfold Par.val
          refine Par.val_call Tryd.func13 (by kernel_rfl) rfl e0 ?_
          simp only [List.map_toArray, List.map_cons, List.map_nil, e1]
          refine (right_any A _ _ (HA12.out.ext hX) (HT12.out.ext hX)).mono ?_
          rintro e w2 ⟨rfl, h2⟩
          exact ⟨_, rfl, hK _ _ ⟨h2, (congrArg Value.bool HRB.out)⟩⟩
        refine ⟨⟨fun _ _ => trivial, fun ρ w' hX hG hk => ?_⟩, ?_⟩
        · obtain ⟨k0, -⟩ := hk
          have e0 : ρ (.tmp 3) = Value.pointer (some ⟨w.heap.size, 0, none⟩) := k0
          clear k0
          refine Par.val_k fun K hK => ?_
          unfold Par.val
          (have c0 := hX.cell KA.out.1; have c1 := hX.cell KA.out.2.1; have c2 := hX.cell KA.out.2.2; go_simp; exact hK _ _ ⟨Ext.refl _, rfl⟩)
        refine ⟨⟨fun _ _ => trivial, fun ρ w' hX hG hk => ?_⟩, ?_⟩
        · obtain ⟨k0, k1, -⟩ := hk
          have e0 := k0
          have e1 : ρ (.tmp 51) = rv A (.slice ao A.n.length ac) := k1
          clear k0 k1
          refine Par.val_k fun K hK => ?_
          unfold Par.val
          refine Par.val_call Tryd.func14 (by kernel_rfl) rfl e0 ?_
          simp only [List.map_toArray, List.map_cons, List.map_nil, e1]
          refine (rright5_any A _ _ (HA12.out.ext hX)).mono ?_
          rintro e w2 ⟨rfl, h2⟩
          exact ⟨_, rfl, hK _ _ ⟨h2, (congrArg Value.bool HRB.out)⟩⟩
        refine ⟨⟨fun _ _ => trivial, fun ρ w' hX hG hk => ?_⟩, ?_⟩
        · obtain ⟨k0, k1, -⟩ := hk
          have e0 : ρ (.tmp 50) = Value.bool RB := k0
          have e1 : ρ (.tmp 52) = Value.bool RB := k1
          clear k0 k1
          refine Par.val_k fun K hK => ?_
          unfold Par.val
          (go_simp; exact hK _ _ ⟨Ext.refl _, rfl⟩)
        refine ⟨⟨fun _ _ => trivial, fun ρ w' hX hG hk => ?_⟩, ?_⟩
        · exact Par.val_of_run rfl ⟨Ext.refl _, hk.1⟩
        refine ⟨⟨fun _ _ u hu => .inl hu, fun ρ w' hX hG hk => ?_⟩, ?_⟩
        · exact Par.val_of_run rfl ⟨Ext.refl _, hk.1⟩
        refine ⟨⟨fun _ _ u hu => .inl hu, fun ρ w' hX hG hk => ?_⟩, ?_⟩
        · exact Par.val_of_run rfl ⟨Ext.refl _, hk.1⟩
        refine ⟨⟨fun _ _ u hu => .inl hu, fun ρ w' hX hG hk => ?_⟩, ?_⟩
        · obtain ⟨k0, k1, k2, -⟩ := hk
          have e0 := k0
          have e1 : ρ (.tmp 55) = Value.slice po P.length pc := k1
          have e2 : ρ (.tmp 56) = Value.slice qo P.length qc := k2
          clear k0 k1 k2
          refine Par.val_k fun K hK => ?_
          unfold Par.val
          refine Par.val_call Tryd.func15 (by kernel_rfl) rfl e0 ?_
          simp only [List.map_toArray, List.map_cons, List.map_nil, e1, e2]
          refine (rsame_any _ _ P P _ (HP12.out.ext hX) (HQ12.out.ext hX)).mono ?_
          rintro e w2 ⟨rfl, h2⟩
          exact ⟨_, rfl, hK _ _ ⟨h2, (congrArg Value.bool HPP.out)⟩⟩
        refine ⟨⟨fun _ _ => trivial, fun ρ w' hX hG hk => ?_⟩, ?_⟩
        · obtain ⟨k0, k1, k2, -⟩ := hk
          have e0 : ρ (.tmp 54) = Value.bool true := k0
          have e1 : ρ (.tmp 57) = Value.bool true := k1
          have e2 : ρ (Operand.const (Value.bool false)) = (Value.bool false) := k2
          clear k0 k1 k2
          refine Par.val_k fun K hK => ?_
          unfold Par.val
          (go_simp; exact hK _ _ ⟨Ext.refl _, rfl⟩)
        refine ⟨⟨fun _ _ => trivial, fun ρ w' hX hG hk => ?_⟩, ?_⟩
        · exact Par.val_of_run rfl ⟨Ext.refl _, hk.1⟩
        refine ⟨⟨fun _ _ u hu => .inl hu, fun ρ w' hX hG hk => ?_⟩, ?_⟩
        · exact Par.val_of_run rfl ⟨Ext.refl _, hk.1⟩
        refine ⟨⟨fun _ _ u hu => .inl hu, fun ρ w' hX hG hk => ?_⟩, ?_⟩
        · exact Par.val_of_run rfl ⟨Ext.refl _, hk.1⟩
        refine ⟨⟨fun _ _ u hu => .inl hu, fun ρ w' hX hG hk => ?_⟩, ?_⟩
        · obtain ⟨k0, k1, -⟩ := hk
          have e0 : ρ (.tmp 60) = Value.int IntKind.i64 pe := k0
          have e1 : ρ (.tmp 61) = Value.int IntKind.i64 pe := k1
          clear k0 k1
          refine Par.val_k fun K hK => ?_
          unfold Par.val
          (go_simp; exact hK _ _ ⟨Ext.refl _, rfl⟩)
        refine ⟨⟨fun _ _ => trivial, fun ρ w' hX hG hk => ?_⟩, ?_⟩
        · obtain ⟨k0, k1, k2, -⟩ := hk
          have e0 : ρ (.tmp 59) = Value.bool true := k0
          have e1 : ρ (.tmp 62) = Value.bool true := k1
          have e2 : ρ (Operand.const (Value.bool false)) = (Value.bool false) := k2
          clear k0 k1 k2
          refine Par.val_k fun K hK => ?_
          unfold Par.val
          (go_simp; exact hK _ _ ⟨Ext.refl _, rfl⟩)
        refine ⟨⟨fun _ _ => trivial, fun ρ w' hX hG hk => ?_⟩, ?_⟩
        · exact Par.val_of_run rfl ⟨Ext.refl _, hk.1⟩
        refine ⟨⟨fun _ _ u hu => .inl hu, fun ρ w' hX hG hk => ?_⟩, ?_⟩
        · obtain ⟨k0, -⟩ := hk
          have e0 : ρ (.tmp 11) = Value.pointer (some ⟨dN, 0, none⟩) := k0
          clear k0
          refine Par.val_k fun K hK => ?_
          unfold Par.val
          (have c0 := hX.cell HD12.out.1; have c1 := hX.cell HD12.out.2.1; have c2 := hX.cell HD12.out.2.2; go_simp; exact hK _ _ ⟨Ext.refl _, rfl⟩)
        refine ⟨⟨fun _ _ u hu => .inl hu, fun ρ w' hX hG hk => ?_⟩, ?_⟩
        · obtain ⟨k0, -⟩ := hk
          have e0 : ρ (.tmp 65) = rv Z (.slice zo Z.n.length zc) := k0
          clear k0
          refine Par.val_k fun K hK => ?_
          unfold Par.val
          (go_simp; exact hK _ _ ⟨Ext.alloc _ _, rcs_lit _ _ Z _ (HZ12.out.ext hX)⟩)
        refine ⟨⟨fun _ _ u hu => .inl hu, fun ρ w' hX hG hk => ?_⟩, ?_⟩
        · obtain ⟨k0, k1, -⟩ := hk
          have e0 := k0
          have e1 : (fun v w' => Rcs w' v [Z]) (ρ (.tmp 66)) w' := k1
          clear k0 k1
          refine Par.val_k fun K hK => ?_
          unfold Par.val
          refine Par.val_call Tryd.func17 (by kernel_rfl) rfl e0 ?_
          simp only [List.map_toArray, List.map_cons, List.map_nil]
          refine (own5_any _ [Z] _ e1 (by simp)).mono ?_
          rintro e w2 ⟨r, rfl, hr, hx2⟩
          exact ⟨_, rfl, hK _ _ ⟨hx2, hr⟩⟩
        refine ⟨⟨fun _ _ u hu => .inl hu, fun ρ w' hX hG hk => ?_⟩, ?_⟩
        · obtain ⟨k0, -⟩ := hk
          have e0 : ρ (.tmp 13) = Value.pointer (some ⟨fN, 0, none⟩) := k0
          clear k0
          refine Par.val_k fun K hK => ?_
          unfold Par.val
          (have c0 := hX.cell HF12.out.1; have c1 := hX.cell HF12.out.2.1; have c2 := hX.cell HF12.out.2.2; go_simp; exact hK _ _ ⟨Ext.refl _, rfl⟩)
        refine ⟨⟨fun _ _ u hu => .inl hu, fun ρ w' hX hG hk => ?_⟩, ?_⟩
        · obtain ⟨k0, -⟩ := hk
          have e0 : ρ (.tmp 68) = rv Z (.slice yo Z.n.length yc) := k0
          clear k0
          refine Par.val_k fun K hK => ?_
          unfold Par.val
          (go_simp; exact hK _ _ ⟨Ext.alloc _ _, rcs_lit _ _ Z _ (HY12.out.ext hX)⟩)
        refine ⟨⟨fun _ _ u hu => .inl hu, fun ρ w' hX hG hk => ?_⟩, ?_⟩
        · obtain ⟨k0, k1, k2, -⟩ := hk
          have e0 := k0
          have e1 : (fun v w' => Rcs w' v [Z]) (ρ (.tmp 67)) w' := k1
          have e2 : (fun v w' => Rcs w' v [Z]) (ρ (.tmp 69)) w' := k2
          clear k0 k1 k2
          refine Par.val_k fun K hK => ?_
          unfold Par.val
          refine Par.val_call Tryd.func16 (by kernel_rfl) rfl e0 ?_
          simp only [List.map_toArray, List.map_cons, List.map_nil]
          refine (rsames5_any _ _ [Z] [Z] _ e1 e2 (by simp) (by simp)).mono ?_
          rintro e w2 ⟨rfl, h2⟩
          exact ⟨_, rfl, hK _ _ ⟨h2, (congrArg Value.bool HZZ.out)⟩⟩
        refine ⟨⟨fun _ _ => trivial, fun ρ w' hX hG hk => ?_⟩, ?_⟩
        · obtain ⟨k0, k1, k2, -⟩ := hk
          have e0 : ρ (.tmp 64) = Value.bool true := k0
          have e1 : ρ (.tmp 70) = Value.bool true := k1
          have e2 : ρ (Operand.const (Value.bool false)) = (Value.bool false) := k2
          clear k0 k1 k2
          refine Par.val_k fun K hK => ?_
          unfold Par.val
          (go_simp; exact hK _ _ ⟨Ext.refl _, rfl⟩)
        refine ⟨⟨fun _ _ => trivial, fun ρ w' hX hG hk => ?_⟩, ?_⟩
        · exact Par.val_of_run rfl ⟨Ext.refl _, hk.1⟩
        refine ⟨⟨fun _ _ u hu => .inl hu, fun ρ w' hX hG hk => ?_⟩, ?_⟩
        · exact Par.val_of_run rfl ⟨Ext.refl _, hk.1⟩
        refine ⟨⟨fun _ _ u hu => .inl hu, fun ρ w' hX hG hk => ?_⟩, ?_⟩
        · exact Par.val_of_run rfl ⟨Ext.refl _, hk.1⟩
        refine ⟨⟨fun _ _ u hu => .inl hu, fun ρ w' hX hG hk => ?_⟩, ?_⟩
        · obtain ⟨k0, k1, -⟩ := hk
          have e0 : ρ (.tmp 73) = Value.int IntKind.i64 ze := k0
          have e1 : ρ (.tmp 74) = Value.int IntKind.i64 ze := k1
          clear k0 k1
          refine Par.val_k fun K hK => ?_
          unfold Par.val
          (go_simp; exact hK _ _ ⟨Ext.refl _, rfl⟩)
        refine ⟨⟨fun _ _ => trivial, fun ρ w' hX hG hk => ?_⟩, ?_⟩
        · obtain ⟨k0, k1, k2, -⟩ := hk
          have e0 : ρ (.tmp 72) = Value.bool true := k0
          have e1 : ρ (.tmp 75) = Value.bool true := k1
          have e2 : ρ (Operand.const (Value.bool false)) = (Value.bool false) := k2
          clear k0 k1 k2
          refine Par.val_k fun K hK => ?_
          unfold Par.val
          (go_simp; exact hK _ _ ⟨Ext.refl _, rfl⟩)
        refine ⟨⟨fun _ _ => trivial, fun ρ w' hX hG hk => ?_⟩, ?_⟩
        · exact Par.val_of_run rfl ⟨Ext.refl _, hk.1⟩
        refine ⟨⟨fun _ _ u hu => .inl hu, fun ρ w' hX hG hk => ?_⟩, ?_⟩
        · obtain ⟨k0, -⟩ := hk
          have e0 : ρ (.tmp 3) = Value.pointer (some ⟨w.heap.size, 0, none⟩) := k0
          clear k0
          refine Par.val_k fun K hK => ?_
          unfold Par.val
          (have c0 := hX.cell KA.out.1; have c1 := hX.cell KA.out.2.1; have c2 := hX.cell KA.out.2.2; go_simp; exact hK _ _ ⟨Ext.refl _, rfl⟩)
        refine ⟨⟨fun _ _ u hu => .inl hu, fun ρ w' hX hG hk => ?_⟩, ?_⟩
        · obtain ⟨k0, -⟩ := hk
          have e0 : ρ (.tmp 4) = Value.pointer (some ⟨w.heap.size + 1, 0, none⟩) := k0
          clear k0
          refine Par.val_k fun K hK => ?_
          unfold Par.val
          (have c0 := hX.cell KB.out.1; have c1 := hX.cell KB.out.2.1; have c2 := hX.cell KB.out.2.2; go_simp; exact hK _ _ ⟨Ext.refl _, rfl⟩)
        refine ⟨⟨fun _ _ u hu => .inl hu, fun ρ w' hX hG hk => ?_⟩, ?_⟩
        · obtain ⟨k0, k1, k2, -⟩ := hk
          have e0 := k0
          have e1 : ρ (.tmp 78) = rv A (.slice ao A.n.length ac) := k1
          have e2 : ρ (.tmp 79) = rv B (.slice bo B.n.length bc) := k2
          clear k0 k1 k2
          refine Par.val_k fun K hK => ?_
          unfold Par.val
          refine Par.val_call Tryd.func18 (by kernel_rfl) rfl e0 ?_
          simp only [List.map_toArray, List.map_cons, List.map_nil, e1, e2]
          refine (same5_any A B _ _ _ (HA12.out.ext hX) (HB12.out.ext hX)).mono ?_
          rintro e w2 ⟨rfl, h2⟩
          exact ⟨_, rfl, hK _ _ ⟨h2, (congrArg Value.bool HSB.out)⟩⟩
        refine ⟨⟨fun _ _ u hu => .inl hu, fun ρ w' hX hG hk => ?_⟩, ?_⟩
        · obtain ⟨k0, -⟩ := hk
          have e0 : ρ (.tmp 3) = Value.pointer (some ⟨w.heap.size, 0, none⟩) := k0
          clear k0
          refine Par.val_k fun K hK => ?_
          unfold Par.val
          (have c0 := hX.cell KA.out.1; have c1 := hX.cell KA.out.2.1; have c2 := hX.cell KA.out.2.2; go_simp; exact hK _ _ ⟨Ext.refl _, rfl⟩)
        refine ⟨⟨fun _ _ u hu => .inl hu, fun ρ w' hX hG hk => ?_⟩, ?_⟩
        · obtain ⟨k0, -⟩ := hk
          have e0 : ρ (.tmp 81) = rv A (.slice ao A.n.length ac) := k0
          clear k0
          refine Par.val_k fun K hK => ?_
          unfold Par.val
          (go_simp; exact hK _ _ ⟨Ext.alloc _ _, rcs_lit _ _ A _ (HA12.out.ext hX)⟩)
        refine ⟨⟨fun _ _ u hu => .inl hu, fun ρ w' hX hG hk => ?_⟩, ?_⟩
        · obtain ⟨k0, k1, -⟩ := hk
          have e0 := k0
          have e1 : (fun v w' => Rcs w' v [A]) (ρ (.tmp 82)) w' := k1
          clear k0 k1
          refine Par.val_k fun K hK => ?_
          unfold Par.val
          refine Par.val_call Tryd.func17 (by kernel_rfl) rfl e0 ?_
          simp only [List.map_toArray, List.map_cons, List.map_nil]
          refine (own5_any _ [A] _ e1 (by simp)).mono ?_
          rintro e w2 ⟨r, rfl, hr, hx2⟩
          exact ⟨_, rfl, hK _ _ ⟨hx2, hr⟩⟩
        refine ⟨⟨fun _ _ u hu => .inl hu, fun ρ w' hX hG hk => ?_⟩, ?_⟩
        · obtain ⟨k0, -⟩ := hk
          have e0 : ρ (.tmp 4) = Value.pointer (some ⟨w.heap.size + 1, 0, none⟩) := k0
          clear k0
          refine Par.val_k fun K hK => ?_
          unfold Par.val
          (have c0 := hX.cell KB.out.1; have c1 := hX.cell KB.out.2.1; have c2 := hX.cell KB.out.2.2; go_simp; exact hK _ _ ⟨Ext.refl _, rfl⟩)
        refine ⟨⟨fun _ _ u hu => .inl hu, fun ρ w' hX hG hk => ?_⟩, ?_⟩
        · obtain ⟨k0, -⟩ := hk
          have e0 : ρ (.tmp 84) = rv B (.slice bo B.n.length bc) := k0
          clear k0
          refine Par.val_k fun K hK => ?_
          unfold Par.val
          (go_simp; exact hK _ _ ⟨Ext.alloc _ _, rcs_lit _ _ B _ (HB12.out.ext hX)⟩)
        refine ⟨⟨fun _ _ u hu => .inl hu, fun ρ w' hX hG hk => ?_⟩, ?_⟩
        · obtain ⟨k0, k1, -⟩ := hk
          have e0 := k0
          have e1 : (fun v w' => Rcs w' v [B]) (ρ (.tmp 85)) w' := k1
          clear k0 k1
          refine Par.val_k fun K hK => ?_
          unfold Par.val
          refine Par.val_call Tryd.func17 (by kernel_rfl) rfl e0 ?_
          simp only [List.map_toArray, List.map_cons, List.map_nil]
          refine (own5_any _ [B] _ e1 (by simp)).mono ?_
          rintro e w2 ⟨r, rfl, hr, hx2⟩
          exact ⟨_, rfl, hK _ _ ⟨hx2, hr⟩⟩
        refine ⟨⟨fun _ _ u hu => .inl hu, fun ρ w' hX hG hk => ?_⟩, ?_⟩
        · obtain ⟨k0, k1, k2, -⟩ := hk
          have e0 := k0
          have e1 : (fun v w' => Rcs w' v [A]) (ρ (.tmp 83)) w' := k1
          have e2 : (fun v w' => Rcs w' v [B]) (ρ (.tmp 86)) w' := k2
          clear k0 k1 k2
          refine Par.val_k fun K hK => ?_
          unfold Par.val
          refine Par.val_call Tryd.func16 (by kernel_rfl) rfl e0 ?_
          simp only [List.map_toArray, List.map_cons, List.map_nil]
          refine (rsames5_any _ _ [A] [B] _ e1 e2 (by simp) (by simp)).mono ?_
          rintro e w2 ⟨rfl, h2⟩
          exact ⟨_, rfl, hK _ _ ⟨h2, (congrArg Value.bool HS1.out)⟩⟩
        refine ⟨⟨fun _ _ u hu => .inl hu, fun ρ w' hX hG hk => ?_⟩, ?_⟩
        · obtain ⟨k0, k1, -⟩ := hk
          have e0 : ρ (.tmp 80) = Value.bool SB := k0
          have e1 : ρ (.tmp 87) = Value.bool SB := k1
          clear k0 k1
          refine Par.val_k fun K hK => ?_
          unfold Par.val
          (go_simp; exact hK _ _ ⟨Ext.refl _, rfl⟩)
        refine ⟨⟨fun _ _ => trivial, fun ρ w' hX hG hk => ?_⟩, ?_⟩
        · obtain ⟨k0, k1, k2, -⟩ := hk
          have e0 : ρ (.tmp 77) = Value.bool true := k0
          have e1 : ρ (.tmp 88) = Value.bool true := k1
          have e2 : ρ (Operand.const (Value.bool false)) = (Value.bool false) := k2
          clear k0 k1 k2
          refine Par.val_k fun K hK => ?_
          unfold Par.val
          (go_simp; exact hK _ _ ⟨Ext.refl _, rfl⟩)
        refine ⟨⟨fun _ _ => trivial, fun ρ w' hX hG hk => ?_⟩, ?_⟩
        · exact Par.val_of_run rfl ⟨Ext.refl _, hk.1⟩
        trivial
      intro a' w' inv
      have hX := inv.ext
      have q49 : a'.tmps.getD 49 undef = rv A (.slice ao A.n.length ac) := inv.done 0 _ 49 rfl rfl rfl
      have q50 : a'.tmps.getD 50 undef = Value.bool RB := inv.done 1 _ 50 rfl rfl rfl
      have q51 : a'.tmps.getD 51 undef = rv A (.slice ao A.n.length ac) := inv.done 2 _ 51 rfl rfl rfl
      have q52 : a'.tmps.getD 52 undef = Value.bool RB := inv.done 3 _ 52 rfl rfl rfl
      have q53 : a'.tmps.getD 53 undef = Value.bool true := inv.done 4 _ 53 rfl rfl rfl
      have q54 : a'.tmps.getD 54 undef = Value.bool true := inv.done 5 _ 54 rfl rfl rfl
      have q55 : a'.tmps.getD 55 undef = Value.slice po P.length pc := inv.done 6 _ 55 rfl rfl rfl
      have q56 : a'.tmps.getD 56 undef = Value.slice qo P.length qc := inv.done 7 _ 56 rfl rfl rfl
      have q57 : a'.tmps.getD 57 undef = Value.bool true := inv.done 8 _ 57 rfl rfl rfl
      have q58 : a'.tmps.getD 58 undef = Value.bool true := inv.done 9 _ 58 rfl rfl rfl
      have q59 : a'.tmps.getD 59 undef = Value.bool true := inv.done 10 _ 59 rfl rfl rfl
      have q60 : a'.tmps.getD 60 undef = Value.int IntKind.i64 pe := inv.done 11 _ 60 rfl rfl rfl
      have q61 : a'.tmps.getD 61 undef = Value.int IntKind.i64 pe := inv.done 12 _ 61 rfl rfl rfl
      have q62 : a'.tmps.getD 62 undef = Value.bool true := inv.done 13 _ 62 rfl rfl rfl
      have q63 : a'.tmps.getD 63 undef = Value.bool true := inv.done 14 _ 63 rfl rfl rfl
      have q64 : a'.tmps.getD 64 undef = Value.bool true := inv.done 15 _ 64 rfl rfl rfl
      have q65 : a'.tmps.getD 65 undef = rv Z (.slice zo Z.n.length zc) := inv.done 16 _ 65 rfl rfl rfl
      have q66 : (fun v w' => Rcs w' v [Z]) (a'.tmps.getD 66 undef) w' := inv.done 17 _ 66 rfl rfl rfl
      have q67 : (fun v w' => Rcs w' v [Z]) (a'.tmps.getD 67 undef) w' := inv.done 18 _ 67 rfl rfl rfl
      have q68 : a'.tmps.getD 68 undef = rv Z (.slice yo Z.n.length yc) := inv.done 19 _ 68 rfl rfl rfl
      have q69 : (fun v w' => Rcs w' v [Z]) (a'.tmps.getD 69 undef) w' := inv.done 20 _ 69 rfl rfl rfl
      have q70 : a'.tmps.getD 70 undef = Value.bool true := inv.done 21 _ 70 rfl rfl rfl
      have q71 : a'.tmps.getD 71 undef = Value.bool true := inv.done 22 _ 71 rfl rfl rfl
      have q72 : a'.tmps.getD 72 undef = Value.bool true := inv.done 23 _ 72 rfl rfl rfl
      have q73 : a'.tmps.getD 73 undef = Value.int IntKind.i64 ze := inv.done 24 _ 73 rfl rfl rfl
      have q74 : a'.tmps.getD 74 undef = Value.int IntKind.i64 ze := inv.done 25 _ 74 rfl rfl rfl
      have q75 : a'.tmps.getD 75 undef = Value.bool true := inv.done 26 _ 75 rfl rfl rfl
      have q76 : a'.tmps.getD 76 undef = Value.bool true := inv.done 27 _ 76 rfl rfl rfl
      have q77 : a'.tmps.getD 77 undef = Value.bool true := inv.done 28 _ 77 rfl rfl rfl
      have q78 : a'.tmps.getD 78 undef = rv A (.slice ao A.n.length ac) := inv.done 29 _ 78 rfl rfl rfl
      have q79 : a'.tmps.getD 79 undef = rv B (.slice bo B.n.length bc) := inv.done 30 _ 79 rfl rfl rfl
      have q80 : a'.tmps.getD 80 undef = Value.bool SB := inv.done 31 _ 80 rfl rfl rfl
      have q81 : a'.tmps.getD 81 undef = rv A (.slice ao A.n.length ac) := inv.done 32 _ 81 rfl rfl rfl
      have q82 : (fun v w' => Rcs w' v [A]) (a'.tmps.getD 82 undef) w' := inv.done 33 _ 82 rfl rfl rfl
      have q83 : (fun v w' => Rcs w' v [A]) (a'.tmps.getD 83 undef) w' := inv.done 34 _ 83 rfl rfl rfl
      have q84 : a'.tmps.getD 84 undef = rv B (.slice bo B.n.length bc) := inv.done 35 _ 84 rfl rfl rfl
      have q85 : (fun v w' => Rcs w' v [B]) (a'.tmps.getD 85 undef) w' := inv.done 36 _ 85 rfl rfl rfl
      have q86 : (fun v w' => Rcs w' v [B]) (a'.tmps.getD 86 undef) w' := inv.done 37 _ 86 rfl rfl rfl
      have q87 : a'.tmps.getD 87 undef = Value.bool SB := inv.done 38 _ 87 rfl rfl rfl
      have q88 : a'.tmps.getD 88 undef = Value.bool true := inv.done 39 _ 88 rfl rfl rfl
      have q89 : a'.tmps.getD 89 undef = Value.bool true := inv.done 40 _ 89 rfl rfl rfl
      have q6 : a'.tmps.getD 6 undef = Value.bool true := inv.done 41 _ 6 rfl rfl rfl
      clear inv
      simp only [List.filterMap_cons, List.filterMap_nil, Par.putAll, Act.put, List.setIfInBounds_toArray, List.set_cons_succ, List.set_cons_zero, q49, q50, q51, q52, q53, q54, q55, q56, q57, q58, q59, q60, q61, q62, q63, q64, q65, q68, q70, q71, q72, q73, q74, q75, q76, q77, q78, q79, q80, q81, q84, q87, q88, q89, q6]
      clear q49 q50 q51 q52 q53 q54 q55 q56 q57 q58 q59 q60 q61 q62 q63 q64 q65 q68 q70 q71 q72 q73 q74 q75 q76 q77 q78 q79 q80 q81 q84 q87 q88 q89 q6
      generalize a'.tmps.getD 66 undef = u66 at *
      generalize a'.tmps.getD 67 undef = u67 at *
      generalize a'.tmps.getD 69 undef = u69 at *
      generalize a'.tmps.getD 82 undef = u82 at *
      generalize a'.tmps.getD 83 undef = u83 at *
      generalize a'.tmps.getD 85 undef = u85 at *
      generalize a'.tmps.getD 86 undef = u86 at *
      clear a'
      have hE := HFW.out _ (HE12.out.trans hX)
      go_wp2
      go_ret
      exact ⟨rfl, hE⟩
end Go.Proofs.YtafdandnbbbdfaaDoor
