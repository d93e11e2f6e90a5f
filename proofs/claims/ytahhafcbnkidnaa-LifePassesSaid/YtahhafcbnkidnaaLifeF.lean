/- The statements of layer 9: LifePasses. -/
import Derived.Test.YtahhafcbnkidnaaLifeE
namespace Go.Proofs.Ytahhafcbnkidnaa
open Go.RowKit Go.Tum

theorem pass_pass (x : L) (now later most : Int) (h : now ≤ later) : passL (passL x now most) later most = passL x later most := by
  obtain ⟨s, c, d, t⟩ := x
  simp only [passL, endL]
  repeat' split
  all_goals (try simp_all)
  all_goals (try omega)
theorem reset_reset (x : L) (most : Int) : resetL (resetL x most) most = resetL x most := by
  obtain ⟨s, c, d, t⟩ := x
  simp only [resetL, endL]
  repeat' split
  all_goals (try simp_all)
  all_goals (try omega)
theorem reset_pass (x : L) (now most : Int) (h : x.s = 3) : resetL x most = passL x (if now < x.d then x.d else now) most := by
  obtain ⟨s, c, d, t⟩ := x
  simp only at h
  subst h
  simp only [resetL, passL, if_true]
  rw [if_neg (by split <;> omega), if_neg (by decide)]

set_option maxRecDepth 100000 in
set_option maxHeartbeats 2000000 in
theorem lifePasses_law (x : L) (now later most : Int) (w : World) :
    Calls Try.prog 7 #[lv x, .int .u64 now, .int .u64 later, .int .i64 most] w fun e w' => e = .returned (.bool true) ∧ Ext w w' := by
  by_cases hlt : later < now
  · have hd : decide (later < now) = true := by simpa using hlt
    clear hlt
    go_enter Try.func7, Try.ntmps7
    go_wp2_with fail
    refine (awake_any _).mono ?_
    rintro e w1 ⟨rfl, hw1⟩
    have hE1 : Ext w w1 := (Ext.alloc w _).trans hw1
    clear hw1
    go_wp2_with fail
    go_ret
    exact ⟨rfl, hE1⟩
  have hd : decide (later < now) = false := by simpa using hlt
  have HP := hid (pass_pass x now later most (by omega))
  have HR := hid (reset_reset x most)
  clear hlt
  go_enter Try.func7, Try.ntmps7
  go_wp2_with fail
  refine (awake_any _).mono ?_
  rintro e w1 ⟨rfl, hw1⟩
  have hE1 : Ext w w1 := (Ext.alloc w _).trans hw1
  have C1 : Hid (At4 w1 w.heap.size (.int .i64 x.s) (.int .i64 x.c) (.int .u64 x.d) (.int .u64 x.t)) := hid ((At4.new w 24 _ _ _ _).ext hw1)
  clear hw1
  by_cases h3 : x.s = 3
  · have hs0 : (x.s != 3) = false := by simp [h3]
    have HM := hid (reset_pass x now most h3)
    clear h3
    go_wp2_with fail
    refine Par.wp_region_par (l := [_, _, _, _, _, _, _, _, _, _, _, _, _, _, _, _, _, _, _, _, _, _, _, _, _, _, _, _, _, _, _, _, _, _, _, _, _, _, _, _, _, _]) rfl Ext (Par.VL [Par.EQ (Value.agg #[Value.int IntKind.i64 x.s, Value.int IntKind.i64 x.c, Value.int IntKind.u64 x.d, Value.int IntKind.u64 x.t]), Par.EQ (Value.int IntKind.u64 now), Par.EQ (Value.int IntKind.i64 most), Par.EQ (lv (passL x now most)), Par.EQ (Value.int IntKind.u64 later), Par.EQ (Value.int IntKind.i64 most), Par.EQ (lv (passL x later most)), Par.EQ (Value.agg #[Value.int IntKind.i64 x.s, Value.int IntKind.i64 x.c, Value.int IntKind.u64 x.d, Value.int IntKind.u64 x.t]), Par.EQ (Value.int IntKind.u64 later), Par.EQ (Value.int IntKind.i64 most), Par.EQ (lv (passL x later most)), Par.EQ (Value.bool true), Par.EQ (Value.bool true), Par.EQ (Value.agg #[Value.int IntKind.i64 x.s, Value.int IntKind.i64 x.c, Value.int IntKind.u64 x.d, Value.int IntKind.u64 x.t]), Par.EQ (Value.int IntKind.i64 most), Par.EQ (lv (resetL x most)), Par.EQ (Value.int IntKind.i64 most), Par.EQ (lv (resetL x most)), Par.EQ (Value.agg #[Value.int IntKind.i64 x.s, Value.int IntKind.i64 x.c, Value.int IntKind.u64 x.d, Value.int IntKind.u64 x.t]), Par.EQ (Value.int IntKind.i64 most), Par.EQ (lv (resetL x most)), Par.EQ (Value.bool true), Par.EQ (Value.bool true), Par.EQ (Value.bool true), Par.EQ (Value.pointer (some ⟨w.heap.size, 0, none⟩)), Par.EQ (Value.int IntKind.i64 x.s), Par.EQ (Value.bool false), Par.EQ (Value.bool false), Par.EQ (Value.agg #[Value.int IntKind.i64 x.s, Value.int IntKind.i64 x.c, Value.int IntKind.u64 x.d, Value.int IntKind.u64 x.t]), Par.EQ (Value.int IntKind.i64 most), Par.EQ (lv (resetL x most)), Par.EQ (Value.agg #[Value.int IntKind.i64 x.s, Value.int IntKind.i64 x.c, Value.int IntKind.u64 x.d, Value.int IntKind.u64 x.t]), Par.EQ (Value.int IntKind.u64 now), Par.EQ (Value.pointer (some ⟨w.heap.size, 2, none⟩)), Par.EQ (Value.int IntKind.u64 x.d), Par.EQ (Value.int IntKind.u64 (if now < x.d then x.d else now)), Par.EQ (Value.int IntKind.i64 most), Par.EQ (lv (resetL x most)), Par.EQ (Value.bool true), Par.EQ (Value.bool true), Par.EQ (Value.bool true), Par.EQ (Value.bool true)]) (by kernel_rfl) Ext.refl (fun _ _ _ h1 h2 => Ext.trans h1 h2) (Ext.draw _) (Par.VL_stab ?_) ?_ ?_
    · simp only [List.forall_mem_cons, List.not_mem_nil, false_implies, implies_true, and_true]
      refine ⟨fun _ _ _ _ h => h, fun _ _ _ _ h => h, fun _ _ _ _ h => h, fun _ _ _ _ h => h, fun _ _ _ _ h => h, fun _ _ _ _ h => h, fun _ _ _ _ h => h, fun _ _ _ _ h => h, fun _ _ _ _ h => h, fun _ _ _ _ h => h, fun _ _ _ _ h => h, fun _ _ _ _ h => h, fun _ _ _ _ h => h, fun _ _ _ _ h => h, fun _ _ _ _ h => h, fun _ _ _ _ h => h, fun _ _ _ _ h => h, fun _ _ _ _ h => h, fun _ _ _ _ h => h, fun _ _ _ _ h => h, fun _ _ _ _ h => h, fun _ _ _ _ h => h, fun _ _ _ _ h => h, fun _ _ _ _ h => h, fun _ _ _ _ h => h, fun _ _ _ _ h => h, fun _ _ _ _ h => h, fun _ _ _ _ h => h, fun _ _ _ _ h => h, fun _ _ _ _ h => h, fun _ _ _ _ h => h, fun _ _ _ _ h => h, fun _ _ _ _ h => h, fun _ _ _ _ h => h, fun _ _ _ _ h => h, fun _ _ _ _ h => h, fun _ _ _ _ h => h, fun _ _ _ _ h => h, fun _ _ _ _ h => h, fun _ _ _ _ h => h, fun _ _ _ _ h => h, fun _ _ _ _ h => h⟩
    · refine ⟨⟨fun _ _ => trivial, fun ρ w' hX hG hk => ?_⟩, ?_⟩
      · obtain ⟨k0, -⟩ := hk
        have e0 : ρ (.tmp 4) = Value.pointer (some ⟨w.heap.size, 0, none⟩) := k0
        clear k0
        refine Par.val_k fun K hK => ?_
        unfold Par.val
        (obtain ⟨c0, c1, c2, c3⟩ := (C1.out.ext hX); go_simp; exact hK _ _ ⟨Ext.refl _, rfl⟩)
      refine ⟨⟨fun _ _ => trivial, fun ρ w' hX hG hk => ?_⟩, ?_⟩
      · exact Par.val_of_run rfl ⟨Ext.refl _, hk.1⟩
      refine ⟨⟨fun _ _ => trivial, fun ρ w' hX hG hk => ?_⟩, ?_⟩
      · exact Par.val_of_run rfl ⟨Ext.refl _, hk.1⟩
      refine ⟨⟨fun _ _ => trivial, fun ρ w' hX hG hk => ?_⟩, ?_⟩
      · obtain ⟨k0, k1, k2, k3, -⟩ := hk
        have e0 := k0
        have e1 : ρ (.tmp 14) = Value.agg #[Value.int IntKind.i64 x.s, Value.int IntKind.i64 x.c, Value.int IntKind.u64 x.d, Value.int IntKind.u64 x.t] := k1
        have e2 : ρ (.tmp 15) = Value.int IntKind.u64 now := k2
        have e3 : ρ (.tmp 16) = Value.int IntKind.i64 most := k3
        clear k0 k1 k2 k3
        refine Par.val_k fun K hK => ?_
        unfold Par.val
        refine Par.val_call Try.func18 (by kernel_rfl) rfl e0 ?_
        simp only [List.map_toArray, List.map_cons, List.map_nil, e1, e2, e3]
        refine (pass_any x now most _).mono ?_
        rintro e w2 ⟨rfl, h2⟩
        exact ⟨_, rfl, hK _ _ ⟨h2, (rfl)⟩⟩
      refine ⟨⟨fun _ _ => trivial, fun ρ w' hX hG hk => ?_⟩, ?_⟩
      · exact Par.val_of_run rfl ⟨Ext.refl _, hk.1⟩
      refine ⟨⟨fun _ _ => trivial, fun ρ w' hX hG hk => ?_⟩, ?_⟩
      · exact Par.val_of_run rfl ⟨Ext.refl _, hk.1⟩
      refine ⟨⟨fun _ _ => trivial, fun ρ w' hX hG hk => ?_⟩, ?_⟩
      · obtain ⟨k0, k1, k2, k3, -⟩ := hk
        have e0 := k0
        have e1 : ρ (.tmp 17) = lv (passL x now most) := k1
        have e2 : ρ (.tmp 18) = Value.int IntKind.u64 later := k2
        have e3 : ρ (.tmp 19) = Value.int IntKind.i64 most := k3
        clear k0 k1 k2 k3
        refine Par.val_k fun K hK => ?_
        unfold Par.val
        refine Par.val_call Try.func18 (by kernel_rfl) rfl e0 ?_
        simp only [List.map_toArray, List.map_cons, List.map_nil, e1, e2, e3]
        refine (pass_any (passL x now most) later most _).mono ?_
        rintro e w2 ⟨rfl, h2⟩
        exact ⟨_, rfl, hK _ _ ⟨h2, (congrArg lv HP.out)⟩⟩
      refine ⟨⟨fun _ _ => trivial, fun ρ w' hX hG hk => ?_⟩, ?_⟩
      · obtain ⟨k0, -⟩ := hk
        have e0 : ρ (.tmp 4) = Value.pointer (some ⟨w.heap.size, 0, none⟩) := k0
        clear k0
        refine Par.val_k fun K hK => ?_
        unfold Par.val
        (obtain ⟨c0, c1, c2, c3⟩ := (C1.out.ext hX); go_simp; exact hK _ _ ⟨Ext.refl _, rfl⟩)
      refine ⟨⟨fun _ _ => trivial, fun ρ w' hX hG hk => ?_⟩, ?_⟩
      · exact Par.val_of_run rfl ⟨Ext.refl _, hk.1⟩
      refine ⟨⟨fun _ _ => trivial, fun ρ w' hX hG hk => ?_⟩, ?_⟩
      · exact Par.val_of_run rfl ⟨Ext.refl _, hk.1⟩
      refine ⟨⟨fun _ _ => trivial, fun ρ w' hX hG hk => ?_⟩, ?_⟩
      · obtain ⟨k0, k1, k2, k3, -⟩ := hk
        have e0 := k0
        have e1 : ρ (.tmp 21) = Value.agg #[Value.int IntKind.i64 x.s, Value.int IntKind.i64 x.c, Value.int IntKind.u64 x.d, Value.int IntKind.u64 x.t] := k1
        have e2 : ρ (.tmp 22) = Value.int IntKind.u64 later := k2
        have e3 : ρ (.tmp 23) = Value.int IntKind.i64 most := k3
        clear k0 k1 k2 k3
        refine Par.val_k fun K hK => ?_
        unfold Par.val
        refine Par.val_call Try.func18 (by kernel_rfl) rfl e0 ?_
        simp only [List.map_toArray, List.map_cons, List.map_nil, e1, e2, e3]
        refine (pass_any x later most _).mono ?_
        rintro e w2 ⟨rfl, h2⟩
        exact ⟨_, rfl, hK _ _ ⟨h2, (rfl)⟩⟩
      refine ⟨⟨fun _ _ => trivial, fun ρ w' hX hG hk => ?_⟩, ?_⟩
      · obtain ⟨k0, k1, -⟩ := hk
        have e0 : ρ (.tmp 20) = lv (passL x later most) := k0
        have e1 : ρ (.tmp 24) = lv (passL x later most) := k1
        clear k0 k1
        refine Par.val_k fun K hK => ?_
        unfold Par.val
        (go_simp; exact hK _ _ ⟨Ext.refl _, rfl⟩)
      refine ⟨⟨fun _ _ => trivial, fun ρ w' hX hG hk => ?_⟩, ?_⟩
      · exact Par.val_of_run rfl ⟨Ext.refl _, hk.1⟩
      refine ⟨⟨fun _ _ u hu => .inl hu, fun ρ w' hX hG hk => ?_⟩, ?_⟩
      · obtain ⟨k0, -⟩ := hk
        have e0 : ρ (.tmp 4) = Value.pointer (some ⟨w.heap.size, 0, none⟩) := k0
        clear k0
        refine Par.val_k fun K hK => ?_
        unfold Par.val
        (obtain ⟨c0, c1, c2, c3⟩ := (C1.out.ext hX); go_simp; exact hK _ _ ⟨Ext.refl _, rfl⟩)
      refine ⟨⟨fun _ _ u hu => .inl hu, fun ρ w' hX hG hk => ?_⟩, ?_⟩
      · exact Par.val_of_run rfl ⟨Ext.refl _, hk.1⟩
      refine ⟨⟨fun _ _ u hu => .inl hu, fun ρ w' hX hG hk => ?_⟩, ?_⟩
      · obtain ⟨k0, k1, k2, -⟩ := hk
        have e0 := k0
        have e1 : ρ (.tmp 27) = Value.agg #[Value.int IntKind.i64 x.s, Value.int IntKind.i64 x.c, Value.int IntKind.u64 x.d, Value.int IntKind.u64 x.t] := k1
        have e2 : ρ (.tmp 28) = Value.int IntKind.i64 most := k2
        clear k0 k1 k2
        refine Par.val_k fun K hK => ?_
        unfold Par.val
        refine Par.val_call Try.func19 (by kernel_rfl) rfl e0 ?_
        simp only [List.map_toArray, List.map_cons, List.map_nil, e1, e2]
        refine (reset_any x most _).mono ?_
        rintro e w2 ⟨rfl, h2⟩
        exact ⟨_, rfl, hK _ _ ⟨h2, (rfl)⟩⟩
      refine ⟨⟨fun _ _ u hu => .inl hu, fun ρ w' hX hG hk => ?_⟩, ?_⟩
      · exact Par.val_of_run rfl ⟨Ext.refl _, hk.1⟩
      refine ⟨⟨fun _ _ u hu => .inl hu, fun ρ w' hX hG hk => ?_⟩, ?_⟩
      · obtain ⟨k0, k1, k2, -⟩ := hk
        have e0 := k0
        have e1 : ρ (.tmp 29) = lv (resetL x most) := k1
        have e2 : ρ (.tmp 30) = Value.int IntKind.i64 most := k2
        clear k0 k1 k2
        refine Par.val_k fun K hK => ?_
        unfold Par.val
        refine Par.val_call Try.func19 (by kernel_rfl) rfl e0 ?_
        simp only [List.map_toArray, List.map_cons, List.map_nil, e1, e2]
        refine (reset_any (resetL x most) most _).mono ?_
        rintro e w2 ⟨rfl, h2⟩
        exact ⟨_, rfl, hK _ _ ⟨h2, (congrArg lv HR.out)⟩⟩
      refine ⟨⟨fun _ _ u hu => .inl hu, fun ρ w' hX hG hk => ?_⟩, ?_⟩
      · obtain ⟨k0, -⟩ := hk
        have e0 : ρ (.tmp 4) = Value.pointer (some ⟨w.heap.size, 0, none⟩) := k0
        clear k0
        refine Par.val_k fun K hK => ?_
        unfold Par.val
        (obtain ⟨c0, c1, c2, c3⟩ := (C1.out.ext hX); go_simp; exact hK _ _ ⟨Ext.refl _, rfl⟩)
      refine ⟨⟨fun _ _ u hu => .inl hu, fun ρ w' hX hG hk => ?_⟩, ?_⟩
      · exact Par.val_of_run rfl ⟨Ext.refl _, hk.1⟩
      refine ⟨⟨fun _ _ u hu => .inl hu, fun ρ w' hX hG hk => ?_⟩, ?_⟩
      · obtain ⟨k0, k1, k2, -⟩ := hk
        have e0 := k0
        have e1 : ρ (.tmp 32) = Value.agg #[Value.int IntKind.i64 x.s, Value.int IntKind.i64 x.c, Value.int IntKind.u64 x.d, Value.int IntKind.u64 x.t] := k1
        have e2 : ρ (.tmp 33) = Value.int IntKind.i64 most := k2
        clear k0 k1 k2
        refine Par.val_k fun K hK => ?_
        unfold Par.val
        refine Par.val_call Try.func19 (by kernel_rfl) rfl e0 ?_
        simp only [List.map_toArray, List.map_cons, List.map_nil, e1, e2]
        refine (reset_any x most _).mono ?_
        rintro e w2 ⟨rfl, h2⟩
        exact ⟨_, rfl, hK _ _ ⟨h2, (rfl)⟩⟩
      refine ⟨⟨fun _ _ u hu => .inl hu, fun ρ w' hX hG hk => ?_⟩, ?_⟩
      · obtain ⟨k0, k1, -⟩ := hk
        have e0 : ρ (.tmp 31) = lv (resetL x most) := k0
        have e1 : ρ (.tmp 34) = lv (resetL x most) := k1
        clear k0 k1
        refine Par.val_k fun K hK => ?_
        unfold Par.val
        (go_simp; exact hK _ _ ⟨Ext.refl _, rfl⟩)
      refine ⟨⟨fun _ _ => trivial, fun ρ w' hX hG hk => ?_⟩, ?_⟩
      · obtain ⟨k0, k1, k2, -⟩ := hk
        have e0 : ρ (.tmp 26) = Value.bool true := k0
        have e1 : ρ (.tmp 35) = Value.bool true := k1
        have e2 : ρ (Operand.const (Value.bool false)) = (Value.bool false) := k2
        clear k0 k1 k2
        refine Par.val_k fun K hK => ?_
        unfold Par.val
        (go_simp; exact hK _ _ ⟨Ext.refl _, rfl⟩)
      refine ⟨⟨fun _ _ => trivial, fun ρ w' hX hG hk => ?_⟩, ?_⟩
      · exact Par.val_of_run rfl ⟨Ext.refl _, hk.1⟩
      refine ⟨⟨fun _ _ u hu => .inl hu, fun ρ w' hX hG hk => ?_⟩, ?_⟩
      · obtain ⟨k0, -⟩ := hk
        have e0 : ρ (.tmp 4) = Value.pointer (some ⟨w.heap.size, 0, none⟩) := k0
        clear k0
        refine Par.val_k fun K hK => ?_
        unfold Par.val
        (go_simp; exact hK _ _ ⟨Ext.refl _, rfl⟩)
      refine ⟨⟨fun _ _ u hu => .inl hu, fun ρ w' hX hG hk => ?_⟩, ?_⟩
      · obtain ⟨k0, -⟩ := hk
        have e0 : ρ (.tmp 38) = Value.pointer (some ⟨w.heap.size, 0, none⟩) := k0
        clear k0
        refine Par.val_k fun K hK => ?_
        unfold Par.val
        (obtain ⟨c0, c1, c2, c3⟩ := (C1.out.ext hX); go_simp; exact hK _ _ ⟨Ext.refl _, rfl⟩)
      refine ⟨⟨fun _ _ u hu => .inl hu, fun ρ w' hX hG hk => ?_⟩, ?_⟩
      · obtain ⟨k0, k1, -⟩ := hk
        have e0 : ρ (.tmp 39) = Value.int IntKind.i64 x.s := k0
        have e1 : ρ (Operand.const (Value.int IntKind.i64 3)) = (Value.int IntKind.i64 3) := k1
        clear k0 k1
        refine Par.val_k fun K hK => ?_
        unfold Par.val
        (go_simp; exact hK _ _ ⟨Ext.refl _, rfl⟩)
      refine ⟨⟨fun _ _ u hu => .inl hu, fun ρ w' hX hG hk => ?_⟩, ?_⟩
      · exact Par.val_of_run rfl ⟨Ext.refl _, hk.1⟩
      refine ⟨⟨fun _ _ u hu => .inl hu, fun ρ w' hX hG hk => ?_⟩, ?_⟩
      · obtain ⟨k0, -⟩ := hk
        have e0 : ρ (.tmp 4) = Value.pointer (some ⟨w.heap.size, 0, none⟩) := k0
        clear k0
        refine Par.val_k fun K hK => ?_
        unfold Par.val
        (obtain ⟨c0, c1, c2, c3⟩ := (C1.out.ext hX); go_simp; exact hK _ _ ⟨Ext.refl _, rfl⟩)
      refine ⟨⟨fun _ _ u hu => .inl hu, fun ρ w' hX hG hk => ?_⟩, ?_⟩
      · exact Par.val_of_run rfl ⟨Ext.refl _, hk.1⟩
      refine ⟨⟨fun _ _ u hu => .inl hu, fun ρ w' hX hG hk => ?_⟩, ?_⟩
      · obtain ⟨k0, k1, k2, -⟩ := hk
        have e0 := k0
        have e1 : ρ (.tmp 42) = Value.agg #[Value.int IntKind.i64 x.s, Value.int IntKind.i64 x.c, Value.int IntKind.u64 x.d, Value.int IntKind.u64 x.t] := k1
        have e2 : ρ (.tmp 43) = Value.int IntKind.i64 most := k2
        clear k0 k1 k2
        refine Par.val_k fun K hK => ?_
        unfold Par.val
        refine Par.val_call Try.func19 (by kernel_rfl) rfl e0 ?_
        simp only [List.map_toArray, List.map_cons, List.map_nil, e1, e2]
        refine (reset_any x most _).mono ?_
        rintro e w2 ⟨rfl, h2⟩
        exact ⟨_, rfl, hK _ _ ⟨h2, (rfl)⟩⟩
      refine ⟨⟨fun _ _ u hu => .inl hu, fun ρ w' hX hG hk => ?_⟩, ?_⟩
      · obtain ⟨k0, -⟩ := hk
        have e0 : ρ (.tmp 4) = Value.pointer (some ⟨w.heap.size, 0, none⟩) := k0
        clear k0
        refine Par.val_k fun K hK => ?_
        unfold Par.val
        (obtain ⟨c0, c1, c2, c3⟩ := (C1.out.ext hX); go_simp; exact hK _ _ ⟨Ext.refl _, rfl⟩)
      refine ⟨⟨fun _ _ u hu => .inl hu, fun ρ w' hX hG hk => ?_⟩, ?_⟩
      · exact Par.val_of_run rfl ⟨Ext.refl _, hk.1⟩
      refine ⟨⟨fun _ _ u hu => .inl hu, fun ρ w' hX hG hk => ?_⟩, ?_⟩
      · obtain ⟨k0, -⟩ := hk
        have e0 : ρ (.tmp 4) = Value.pointer (some ⟨w.heap.size, 0, none⟩) := k0
        clear k0
        refine Par.val_k fun K hK => ?_
        unfold Par.val
        (go_simp; exact hK _ _ ⟨Ext.refl _, rfl⟩)
      refine ⟨⟨fun _ _ u hu => .inl hu, fun ρ w' hX hG hk => ?_⟩, ?_⟩
      · obtain ⟨k0, -⟩ := hk
        have e0 : ρ (.tmp 47) = Value.pointer (some ⟨w.heap.size, 2, none⟩) := k0
        clear k0
        refine Par.val_k fun K hK => ?_
        unfold Par.val
        (obtain ⟨c0, c1, c2, c3⟩ := (C1.out.ext hX); go_simp; exact hK _ _ ⟨Ext.refl _, rfl⟩)
      refine ⟨⟨fun _ _ u hu => .inl hu, fun ρ w' hX hG hk => ?_⟩, ?_⟩
      · obtain ⟨k0, k1, -⟩ := hk
        have e0 : ρ (.tmp 46) = Value.int IntKind.u64 now := k0
        have e1 : ρ (.tmp 48) = Value.int IntKind.u64 x.d := k1
        clear k0 k1
        refine Par.val_k fun K hK => ?_
        unfold Par.val
        (go_simp; exact hK _ _ ⟨Ext.refl _, rfl⟩)
      refine ⟨⟨fun _ _ u hu => .inl hu, fun ρ w' hX hG hk => ?_⟩, ?_⟩
      · exact Par.val_of_run rfl ⟨Ext.refl _, hk.1⟩
      refine ⟨⟨fun _ _ u hu => .inl hu, fun ρ w' hX hG hk => ?_⟩, ?_⟩
      · obtain ⟨k0, k1, k2, k3, -⟩ := hk
        have e0 := k0
        have e1 : ρ (.tmp 45) = Value.agg #[Value.int IntKind.i64 x.s, Value.int IntKind.i64 x.c, Value.int IntKind.u64 x.d, Value.int IntKind.u64 x.t] := k1
        have e2 : ρ (.tmp 49) = Value.int IntKind.u64 (if now < x.d then x.d else now) := k2
        have e3 : ρ (.tmp 50) = Value.int IntKind.i64 most := k3
        clear k0 k1 k2 k3
        refine Par.val_k fun K hK => ?_
        unfold Par.val
        refine Par.val_call Try.func18 (by kernel_rfl) rfl e0 ?_
        simp only [List.map_toArray, List.map_cons, List.map_nil, e1, e2, e3]
        refine (pass_any x (if now < x.d then x.d else now) most _).mono ?_
        rintro e w2 ⟨rfl, h2⟩
        exact ⟨_, rfl, hK _ _ ⟨h2, (congrArg lv HM.out.symm)⟩⟩
      refine ⟨⟨fun _ _ u hu => .inl hu, fun ρ w' hX hG hk => ?_⟩, ?_⟩
      · obtain ⟨k0, k1, -⟩ := hk
        have e0 : ρ (.tmp 44) = lv (resetL x most) := k0
        have e1 : ρ (.tmp 51) = lv (resetL x most) := k1
        clear k0 k1
        refine Par.val_k fun K hK => ?_
        unfold Par.val
        (go_simp; exact hK _ _ ⟨Ext.refl _, rfl⟩)
      refine ⟨⟨fun _ _ u hu => .inl hu, fun ρ w' hX hG hk => ?_⟩, ?_⟩
      · obtain ⟨k0, k1, k2, -⟩ := hk
        have e0 : ρ (.tmp 41) = Value.bool false := k0
        have e1 : ρ (Operand.const (Value.bool true)) = (Value.bool true) := k1
        have e2 : ρ (.tmp 52) = Value.bool true := k2
        clear k0 k1 k2
        refine Par.val_k fun K hK => ?_
        unfold Par.val
        (go_simp; exact hK _ _ ⟨Ext.refl _, rfl⟩)
      refine ⟨⟨fun _ _ => trivial, fun ρ w' hX hG hk => ?_⟩, ?_⟩
      · obtain ⟨k0, k1, k2, -⟩ := hk
        have e0 : ρ (.tmp 37) = Value.bool true := k0
        have e1 : ρ (.tmp 53) = Value.bool true := k1
        have e2 : ρ (Operand.const (Value.bool false)) = (Value.bool false) := k2
        clear k0 k1 k2
        refine Par.val_k fun K hK => ?_
        unfold Par.val
        (go_simp; exact hK _ _ ⟨Ext.refl _, rfl⟩)
      refine ⟨⟨fun _ _ => trivial, fun ρ w' hX hG hk => ?_⟩, ?_⟩
      · exact Par.val_of_run rfl ⟨Ext.refl _, hk.1⟩
      trivial
    intro a' w' inv
    have hX := inv.ext
    have q14 : a'.tmps.getD 14 undef = Value.agg #[Value.int IntKind.i64 x.s, Value.int IntKind.i64 x.c, Value.int IntKind.u64 x.d, Value.int IntKind.u64 x.t] := inv.done 0 _ 14 rfl rfl rfl
    have q15 : a'.tmps.getD 15 undef = Value.int IntKind.u64 now := inv.done 1 _ 15 rfl rfl rfl
    have q16 : a'.tmps.getD 16 undef = Value.int IntKind.i64 most := inv.done 2 _ 16 rfl rfl rfl
    have q17 : a'.tmps.getD 17 undef = lv (passL x now most) := inv.done 3 _ 17 rfl rfl rfl
    have q18 : a'.tmps.getD 18 undef = Value.int IntKind.u64 later := inv.done 4 _ 18 rfl rfl rfl
    have q19 : a'.tmps.getD 19 undef = Value.int IntKind.i64 most := inv.done 5 _ 19 rfl rfl rfl
    have q20 : a'.tmps.getD 20 undef = lv (passL x later most) := inv.done 6 _ 20 rfl rfl rfl
    have q21 : a'.tmps.getD 21 undef = Value.agg #[Value.int IntKind.i64 x.s, Value.int IntKind.i64 x.c, Value.int IntKind.u64 x.d, Value.int IntKind.u64 x.t] := inv.done 7 _ 21 rfl rfl rfl
    have q22 : a'.tmps.getD 22 undef = Value.int IntKind.u64 later := inv.done 8 _ 22 rfl rfl rfl
    have q23 : a'.tmps.getD 23 undef = Value.int IntKind.i64 most := inv.done 9 _ 23 rfl rfl rfl
    have q24 : a'.tmps.getD 24 undef = lv (passL x later most) := inv.done 10 _ 24 rfl rfl rfl
    have q25 : a'.tmps.getD 25 undef = Value.bool true := inv.done 11 _ 25 rfl rfl rfl
    have q26 : a'.tmps.getD 26 undef = Value.bool true := inv.done 12 _ 26 rfl rfl rfl
    have q27 : a'.tmps.getD 27 undef = Value.agg #[Value.int IntKind.i64 x.s, Value.int IntKind.i64 x.c, Value.int IntKind.u64 x.d, Value.int IntKind.u64 x.t] := inv.done 13 _ 27 rfl rfl rfl
    have q28 : a'.tmps.getD 28 undef = Value.int IntKind.i64 most := inv.done 14 _ 28 rfl rfl rfl
    have q29 : a'.tmps.getD 29 undef = lv (resetL x most) := inv.done 15 _ 29 rfl rfl rfl
    have q30 : a'.tmps.getD 30 undef = Value.int IntKind.i64 most := inv.done 16 _ 30 rfl rfl rfl
    have q31 : a'.tmps.getD 31 undef = lv (resetL x most) := inv.done 17 _ 31 rfl rfl rfl
    have q32 : a'.tmps.getD 32 undef = Value.agg #[Value.int IntKind.i64 x.s, Value.int IntKind.i64 x.c, Value.int IntKind.u64 x.d, Value.int IntKind.u64 x.t] := inv.done 18 _ 32 rfl rfl rfl
    have q33 : a'.tmps.getD 33 undef = Value.int IntKind.i64 most := inv.done 19 _ 33 rfl rfl rfl
    have q34 : a'.tmps.getD 34 undef = lv (resetL x most) := inv.done 20 _ 34 rfl rfl rfl
    have q35 : a'.tmps.getD 35 undef = Value.bool true := inv.done 21 _ 35 rfl rfl rfl
    have q36 : a'.tmps.getD 36 undef = Value.bool true := inv.done 22 _ 36 rfl rfl rfl
    have q37 : a'.tmps.getD 37 undef = Value.bool true := inv.done 23 _ 37 rfl rfl rfl
    have q38 : a'.tmps.getD 38 undef = Value.pointer (some ⟨w.heap.size, 0, none⟩) := inv.done 24 _ 38 rfl rfl rfl
    have q39 : a'.tmps.getD 39 undef = Value.int IntKind.i64 x.s := inv.done 25 _ 39 rfl rfl rfl
    have q40 : a'.tmps.getD 40 undef = Value.bool false := inv.done 26 _ 40 rfl rfl rfl
    have q41 : a'.tmps.getD 41 undef = Value.bool false := inv.done 27 _ 41 rfl rfl rfl
    have q42 : a'.tmps.getD 42 undef = Value.agg #[Value.int IntKind.i64 x.s, Value.int IntKind.i64 x.c, Value.int IntKind.u64 x.d, Value.int IntKind.u64 x.t] := inv.done 28 _ 42 rfl rfl rfl
    have q43 : a'.tmps.getD 43 undef = Value.int IntKind.i64 most := inv.done 29 _ 43 rfl rfl rfl
    have q44 : a'.tmps.getD 44 undef = lv (resetL x most) := inv.done 30 _ 44 rfl rfl rfl
    have q45 : a'.tmps.getD 45 undef = Value.agg #[Value.int IntKind.i64 x.s, Value.int IntKind.i64 x.c, Value.int IntKind.u64 x.d, Value.int IntKind.u64 x.t] := inv.done 31 _ 45 rfl rfl rfl
    have q46 : a'.tmps.getD 46 undef = Value.int IntKind.u64 now := inv.done 32 _ 46 rfl rfl rfl
    have q47 : a'.tmps.getD 47 undef = Value.pointer (some ⟨w.heap.size, 2, none⟩) := inv.done 33 _ 47 rfl rfl rfl
    have q48 : a'.tmps.getD 48 undef = Value.int IntKind.u64 x.d := inv.done 34 _ 48 rfl rfl rfl
    have q49 : a'.tmps.getD 49 undef = Value.int IntKind.u64 (if now < x.d then x.d else now) := inv.done 35 _ 49 rfl rfl rfl
    have q50 : a'.tmps.getD 50 undef = Value.int IntKind.i64 most := inv.done 36 _ 50 rfl rfl rfl
    have q51 : a'.tmps.getD 51 undef = lv (resetL x most) := inv.done 37 _ 51 rfl rfl rfl
    have q52 : a'.tmps.getD 52 undef = Value.bool true := inv.done 38 _ 52 rfl rfl rfl
    have q53 : a'.tmps.getD 53 undef = Value.bool true := inv.done 39 _ 53 rfl rfl rfl
    have q54 : a'.tmps.getD 54 undef = Value.bool true := inv.done 40 _ 54 rfl rfl rfl
    have q8 : a'.tmps.getD 8 undef = Value.bool true := inv.done 41 _ 8 rfl rfl rfl
    clear inv
    simp only [List.filterMap_cons, List.filterMap_nil, Par.putAll, Act.put, List.setIfInBounds_toArray, List.set_cons_succ, List.set_cons_zero, q14, q15, q16, q17, q18, q19, q20, q21, q22, q23, q24, q25, q26, q27, q28, q29, q30, q31, q32, q33, q34, q35, q36, q37, q38, q39, q40, q41, q42, q43, q44, q45, q46, q47, q48, q49, q50, q51, q52, q53, q54, q8]
    clear q14 q15 q16 q17 q18 q19 q20 q21 q22 q23 q24 q25 q26 q27 q28 q29 q30 q31 q32 q33 q34 q35 q36 q37 q38 q39 q40 q41 q42 q43 q44 q45 q46 q47 q48 q49 q50 q51 q52 q53 q54 q8
    clear a'
    go_wp2_with fail
    all_goals (go_ret; exact ⟨rfl, hE1.trans hX⟩)
  · have hs0 : (x.s != 3) = true := by simp [h3]
    clear h3
    go_wp2_with fail
    refine Par.wp_region_par (l := [_, _, _, _, _, _, _, _, _, _, _, _, _, _, _, _, _, _, _, _, _, _, _, _, _, _, _, _, _, _, _, _, _, _, _, _, _, _, _, _, _, _]) rfl Ext (Par.VL [Par.EQ (Value.agg #[Value.int IntKind.i64 x.s, Value.int IntKind.i64 x.c, Value.int IntKind.u64 x.d, Value.int IntKind.u64 x.t]), Par.EQ (Value.int IntKind.u64 now), Par.EQ (Value.int IntKind.i64 most), Par.EQ (lv (passL x now most)), Par.EQ (Value.int IntKind.u64 later), Par.EQ (Value.int IntKind.i64 most), Par.EQ (lv (passL x later most)), Par.EQ (Value.agg #[Value.int IntKind.i64 x.s, Value.int IntKind.i64 x.c, Value.int IntKind.u64 x.d, Value.int IntKind.u64 x.t]), Par.EQ (Value.int IntKind.u64 later), Par.EQ (Value.int IntKind.i64 most), Par.EQ (lv (passL x later most)), Par.EQ (Value.bool true), Par.EQ (Value.bool true), Par.EQ (Value.agg #[Value.int IntKind.i64 x.s, Value.int IntKind.i64 x.c, Value.int IntKind.u64 x.d, Value.int IntKind.u64 x.t]), Par.EQ (Value.int IntKind.i64 most), Par.EQ (lv (resetL x most)), Par.EQ (Value.int IntKind.i64 most), Par.EQ (lv (resetL x most)), Par.EQ (Value.agg #[Value.int IntKind.i64 x.s, Value.int IntKind.i64 x.c, Value.int IntKind.u64 x.d, Value.int IntKind.u64 x.t]), Par.EQ (Value.int IntKind.i64 most), Par.EQ (lv (resetL x most)), Par.EQ (Value.bool true), Par.EQ (Value.bool true), Par.EQ (Value.bool true), Par.EQ (Value.pointer (some ⟨w.heap.size, 0, none⟩)), Par.EQ (Value.int IntKind.i64 x.s), Par.EQ (Value.bool true), Par.EQ (Value.bool true), Par.EQ (undef), Par.EQ (undef), Par.EQ (undef), Par.EQ (undef), Par.EQ (undef), Par.EQ (undef), Par.EQ (undef), Par.EQ (undef), Par.EQ (undef), Par.EQ (undef), Par.EQ (undef), Par.EQ (Value.bool true), Par.EQ (Value.bool true), Par.EQ (Value.bool true)]) (by kernel_rfl) Ext.refl (fun _ _ _ h1 h2 => Ext.trans h1 h2) (Ext.draw _) (Par.VL_stab ?_) ?_ ?_
    · simp only [List.forall_mem_cons, List.not_mem_nil, false_implies, implies_true, and_true]
      refine ⟨fun _ _ _ _ h => h, fun _ _ _ _ h => h, fun _ _ _ _ h => h, fun _ _ _ _ h => h, fun _ _ _ _ h => h, fun _ _ _ _ h => h, fun _ _ _ _ h => h, fun _ _ _ _ h => h, fun _ _ _ _ h => h, fun _ _ _ _ h => h, fun _ _ _ _ h => h, fun _ _ _ _ h => h, fun _ _ _ _ h => h, fun _ _ _ _ h => h, fun _ _ _ _ h => h, fun _ _ _ _ h => h, fun _ _ _ _ h => h, fun _ _ _ _ h => h, fun _ _ _ _ h => h, fun _ _ _ _ h => h, fun _ _ _ _ h => h, fun _ _ _ _ h => h, fun _ _ _ _ h => h, fun _ _ _ _ h => h, fun _ _ _ _ h => h, fun _ _ _ _ h => h, fun _ _ _ _ h => h, fun _ _ _ _ h => h, fun _ _ _ _ h => h, fun _ _ _ _ h => h, fun _ _ _ _ h => h, fun _ _ _ _ h => h, fun _ _ _ _ h => h, fun _ _ _ _ h => h, fun _ _ _ _ h => h, fun _ _ _ _ h => h, fun _ _ _ _ h => h, fun _ _ _ _ h => h, fun _ _ _ _ h => h, fun _ _ _ _ h => h, fun _ _ _ _ h => h, fun _ _ _ _ h => h⟩
    · refine ⟨⟨fun _ _ => trivial, fun ρ w' hX hG hk => ?_⟩, ?_⟩
      · obtain ⟨k0, -⟩ := hk
        have e0 : ρ (.tmp 4) = Value.pointer (some ⟨w.heap.size, 0, none⟩) := k0
        clear k0
        refine Par.val_k fun K hK => ?_
        unfold Par.val
        (obtain ⟨c0, c1, c2, c3⟩ := (C1.out.ext hX); go_simp; exact hK _ _ ⟨Ext.refl _, rfl⟩)
      refine ⟨⟨fun _ _ => trivial, fun ρ w' hX hG hk => ?_⟩, ?_⟩
      · exact Par.val_of_run rfl ⟨Ext.refl _, hk.1⟩
      refine ⟨⟨fun _ _ => trivial, fun ρ w' hX hG hk => ?_⟩, ?_⟩
      · exact Par.val_of_run rfl ⟨Ext.refl _, hk.1⟩
      refine ⟨⟨fun _ _ => trivial, fun ρ w' hX hG hk => ?_⟩, ?_⟩
      · obtain ⟨k0, k1, k2, k3, -⟩ := hk
        have e0 := k0
        have e1 : ρ (.tmp 14) = Value.agg #[Value.int IntKind.i64 x.s, Value.int IntKind.i64 x.c, Value.int IntKind.u64 x.d, Value.int IntKind.u64 x.t] := k1
        have e2 : ρ (.tmp 15) = Value.int IntKind.u64 now := k2
        have e3 : ρ (.tmp 16) = Value.int IntKind.i64 most := k3
        clear k0 k1 k2 k3
        refine Par.val_k fun K hK => ?_
        unfold Par.val
        refine Par.val_call Try.func18 (by kernel_rfl) rfl e0 ?_
        simp only [List.map_toArray, List.map_cons, List.map_nil, e1, e2, e3]
        refine (pass_any x now most _).mono ?_
        rintro e w2 ⟨rfl, h2⟩
        exact ⟨_, rfl, hK _ _ ⟨h2, (rfl)⟩⟩
      refine ⟨⟨fun _ _ => trivial, fun ρ w' hX hG hk => ?_⟩, ?_⟩
      · exact Par.val_of_run rfl ⟨Ext.refl _, hk.1⟩
      refine ⟨⟨fun _ _ => trivial, fun ρ w' hX hG hk => ?_⟩, ?_⟩
      · exact Par.val_of_run rfl ⟨Ext.refl _, hk.1⟩
      refine ⟨⟨fun _ _ => trivial, fun ρ w' hX hG hk => ?_⟩, ?_⟩
      · obtain ⟨k0, k1, k2, k3, -⟩ := hk
        have e0 := k0
        have e1 : ρ (.tmp 17) = lv (passL x now most) := k1
        have e2 : ρ (.tmp 18) = Value.int IntKind.u64 later := k2
        have e3 : ρ (.tmp 19) = Value.int IntKind.i64 most := k3
        clear k0 k1 k2 k3
        refine Par.val_k fun K hK => ?_
        unfold Par.val
        refine Par.val_call Try.func18 (by kernel_rfl) rfl e0 ?_
        simp only [List.map_toArray, List.map_cons, List.map_nil, e1, e2, e3]
        refine (pass_any (passL x now most) later most _).mono ?_
        rintro e w2 ⟨rfl, h2⟩
        exact ⟨_, rfl, hK _ _ ⟨h2, (congrArg lv HP.out)⟩⟩
      refine ⟨⟨fun _ _ => trivial, fun ρ w' hX hG hk => ?_⟩, ?_⟩
      · obtain ⟨k0, -⟩ := hk
        have e0 : ρ (.tmp 4) = Value.pointer (some ⟨w.heap.size, 0, none⟩) := k0
        clear k0
        refine Par.val_k fun K hK => ?_
        unfold Par.val
        (obtain ⟨c0, c1, c2, c3⟩ := (C1.out.ext hX); go_simp; exact hK _ _ ⟨Ext.refl _, rfl⟩)
      refine ⟨⟨fun _ _ => trivial, fun ρ w' hX hG hk => ?_⟩, ?_⟩
      · exact Par.val_of_run rfl ⟨Ext.refl _, hk.1⟩
      refine ⟨⟨fun _ _ => trivial, fun ρ w' hX hG hk => ?_⟩, ?_⟩
      · exact Par.val_of_run rfl ⟨Ext.refl _, hk.1⟩
      refine ⟨⟨fun _ _ => trivial, fun ρ w' hX hG hk => ?_⟩, ?_⟩
      · obtain ⟨k0, k1, k2, k3, -⟩ := hk
        have e0 := k0
        have e1 : ρ (.tmp 21) = Value.agg #[Value.int IntKind.i64 x.s, Value.int IntKind.i64 x.c, Value.int IntKind.u64 x.d, Value.int IntKind.u64 x.t] := k1
        have e2 : ρ (.tmp 22) = Value.int IntKind.u64 later := k2
        have e3 : ρ (.tmp 23) = Value.int IntKind.i64 most := k3
        clear k0 k1 k2 k3
        refine Par.val_k fun K hK => ?_
        unfold Par.val
        refine Par.val_call Try.func18 (by kernel_rfl) rfl e0 ?_
        simp only [List.map_toArray, List.map_cons, List.map_nil, e1, e2, e3]
        refine (pass_any x later most _).mono ?_
        rintro e w2 ⟨rfl, h2⟩
        exact ⟨_, rfl, hK _ _ ⟨h2, (rfl)⟩⟩
      refine ⟨⟨fun _ _ => trivial, fun ρ w' hX hG hk => ?_⟩, ?_⟩
      · obtain ⟨k0, k1, -⟩ := hk
        have e0 : ρ (.tmp 20) = lv (passL x later most) := k0
        have e1 : ρ (.tmp 24) = lv (passL x later most) := k1
        clear k0 k1
        refine Par.val_k fun K hK => ?_
        unfold Par.val
        (go_simp; exact hK _ _ ⟨Ext.refl _, rfl⟩)
      refine ⟨⟨fun _ _ => trivial, fun ρ w' hX hG hk => ?_⟩, ?_⟩
      · exact Par.val_of_run rfl ⟨Ext.refl _, hk.1⟩
      refine ⟨⟨fun _ _ u hu => .inl hu, fun ρ w' hX hG hk => ?_⟩, ?_⟩
      · obtain ⟨k0, -⟩ := hk
        have e0 : ρ (.tmp 4) = Value.pointer (some ⟨w.heap.size, 0, none⟩) := k0
        clear k0
        refine Par.val_k fun K hK => ?_
        unfold Par.val
        (obtain ⟨c0, c1, c2, c3⟩ := (C1.out.ext hX); go_simp; exact hK _ _ ⟨Ext.refl _, rfl⟩)
      refine ⟨⟨fun _ _ u hu => .inl hu, fun ρ w' hX hG hk => ?_⟩, ?_⟩
      · exact Par.val_of_run rfl ⟨Ext.refl _, hk.1⟩
      refine ⟨⟨fun _ _ u hu => .inl hu, fun ρ w' hX hG hk => ?_⟩, ?_⟩
      · obtain ⟨k0, k1, k2, -⟩ := hk
        have e0 := k0
        have e1 : ρ (.tmp 27) = Value.agg #[Value.int IntKind.i64 x.s, Value.int IntKind.i64 x.c, Value.int IntKind.u64 x.d, Value.int IntKind.u64 x.t] := k1
        have e2 : ρ (.tmp 28) = Value.int IntKind.i64 most := k2
        clear k0 k1 k2
        refine Par.val_k fun K hK => ?_
        unfold Par.val
        refine Par.val_call Try.func19 (by kernel_rfl) rfl e0 ?_
        simp only [List.map_toArray, List.map_cons, List.map_nil, e1, e2]
        refine (reset_any x most _).mono ?_
        rintro e w2 ⟨rfl, h2⟩
        exact ⟨_, rfl, hK _ _ ⟨h2, (rfl)⟩⟩
      refine ⟨⟨fun _ _ u hu => .inl hu, fun ρ w' hX hG hk => ?_⟩, ?_⟩
      · exact Par.val_of_run rfl ⟨Ext.refl _, hk.1⟩
      refine ⟨⟨fun _ _ u hu => .inl hu, fun ρ w' hX hG hk => ?_⟩, ?_⟩
      · obtain ⟨k0, k1, k2, -⟩ := hk
        have e0 := k0
        have e1 : ρ (.tmp 29) = lv (resetL x most) := k1
        have e2 : ρ (.tmp 30) = Value.int IntKind.i64 most := k2
        clear k0 k1 k2
        refine Par.val_k fun K hK => ?_
        unfold Par.val
        refine Par.val_call Try.func19 (by kernel_rfl) rfl e0 ?_
        simp only [List.map_toArray, List.map_cons, List.map_nil, e1, e2]
        refine (reset_any (resetL x most) most _).mono ?_
        rintro e w2 ⟨rfl, h2⟩
        exact ⟨_, rfl, hK _ _ ⟨h2, (congrArg lv HR.out)⟩⟩
      refine ⟨⟨fun _ _ u hu => .inl hu, fun ρ w' hX hG hk => ?_⟩, ?_⟩
      · obtain ⟨k0, -⟩ := hk
        have e0 : ρ (.tmp 4) = Value.pointer (some ⟨w.heap.size, 0, none⟩) := k0
        clear k0
        refine Par.val_k fun K hK => ?_
        unfold Par.val
        (obtain ⟨c0, c1, c2, c3⟩ := (C1.out.ext hX); go_simp; exact hK _ _ ⟨Ext.refl _, rfl⟩)
      refine ⟨⟨fun _ _ u hu => .inl hu, fun ρ w' hX hG hk => ?_⟩, ?_⟩
      · exact Par.val_of_run rfl ⟨Ext.refl _, hk.1⟩
      refine ⟨⟨fun _ _ u hu => .inl hu, fun ρ w' hX hG hk => ?_⟩, ?_⟩
      · obtain ⟨k0, k1, k2, -⟩ := hk
        have e0 := k0
        have e1 : ρ (.tmp 32) = Value.agg #[Value.int IntKind.i64 x.s, Value.int IntKind.i64 x.c, Value.int IntKind.u64 x.d, Value.int IntKind.u64 x.t] := k1
        have e2 : ρ (.tmp 33) = Value.int IntKind.i64 most := k2
        clear k0 k1 k2
        refine Par.val_k fun K hK => ?_
        unfold Par.val
        refine Par.val_call Try.func19 (by kernel_rfl) rfl e0 ?_
        simp only [List.map_toArray, List.map_cons, List.map_nil, e1, e2]
        refine (reset_any x most _).mono ?_
        rintro e w2 ⟨rfl, h2⟩
        exact ⟨_, rfl, hK _ _ ⟨h2, (rfl)⟩⟩
      refine ⟨⟨fun _ _ u hu => .inl hu, fun ρ w' hX hG hk => ?_⟩, ?_⟩
      · obtain ⟨k0, k1, -⟩ := hk
        have e0 : ρ (.tmp 31) = lv (resetL x most) := k0
        have e1 : ρ (.tmp 34) = lv (resetL x most) := k1
        clear k0 k1
        refine Par.val_k fun K hK => ?_
        unfold Par.val
        (go_simp; exact hK _ _ ⟨Ext.refl _, rfl⟩)
      refine ⟨⟨fun _ _ => trivial, fun ρ w' hX hG hk => ?_⟩, ?_⟩
      · obtain ⟨k0, k1, k2, -⟩ := hk
        have e0 : ρ (.tmp 26) = Value.bool true := k0
        have e1 : ρ (.tmp 35) = Value.bool true := k1
        have e2 : ρ (Operand.const (Value.bool false)) = (Value.bool false) := k2
        clear k0 k1 k2
        refine Par.val_k fun K hK => ?_
        unfold Par.val
        (go_simp; exact hK _ _ ⟨Ext.refl _, rfl⟩)
      refine ⟨⟨fun _ _ => trivial, fun ρ w' hX hG hk => ?_⟩, ?_⟩
      · exact Par.val_of_run rfl ⟨Ext.refl _, hk.1⟩
      refine ⟨⟨fun _ _ u hu => .inl hu, fun ρ w' hX hG hk => ?_⟩, ?_⟩
      · obtain ⟨k0, -⟩ := hk
        have e0 : ρ (.tmp 4) = Value.pointer (some ⟨w.heap.size, 0, none⟩) := k0
        clear k0
        refine Par.val_k fun K hK => ?_
        unfold Par.val
        (go_simp; exact hK _ _ ⟨Ext.refl _, rfl⟩)
      refine ⟨⟨fun _ _ u hu => .inl hu, fun ρ w' hX hG hk => ?_⟩, ?_⟩
      · obtain ⟨k0, -⟩ := hk
        have e0 : ρ (.tmp 38) = Value.pointer (some ⟨w.heap.size, 0, none⟩) := k0
        clear k0
        refine Par.val_k fun K hK => ?_
        unfold Par.val
        (obtain ⟨c0, c1, c2, c3⟩ := (C1.out.ext hX); go_simp; exact hK _ _ ⟨Ext.refl _, rfl⟩)
      refine ⟨⟨fun _ _ u hu => .inl hu, fun ρ w' hX hG hk => ?_⟩, ?_⟩
      · obtain ⟨k0, k1, -⟩ := hk
        have e0 : ρ (.tmp 39) = Value.int IntKind.i64 x.s := k0
        have e1 : ρ (Operand.const (Value.int IntKind.i64 3)) = (Value.int IntKind.i64 3) := k1
        clear k0 k1
        refine Par.val_k fun K hK => ?_
        unfold Par.val
        (go_simp; exact hK _ _ ⟨Ext.refl _, rfl⟩)
      refine ⟨⟨fun _ _ u hu => .inl hu, fun ρ w' hX hG hk => ?_⟩, ?_⟩
      · exact Par.val_of_run rfl ⟨Ext.refl _, hk.1⟩
      refine ⟨⟨fun _ _ u hu => .inr rfl, fun ρ w' hX hG hk => ?_⟩, ?_⟩
      · cases hG
      refine ⟨⟨fun _ _ u hu => .inr rfl, fun ρ w' hX hG hk => ?_⟩, ?_⟩
      · cases hG
      refine ⟨⟨fun _ _ u hu => .inr rfl, fun ρ w' hX hG hk => ?_⟩, ?_⟩
      · cases hG
      refine ⟨⟨fun _ _ u hu => .inr rfl, fun ρ w' hX hG hk => ?_⟩, ?_⟩
      · cases hG
      refine ⟨⟨fun _ _ u hu => .inr rfl, fun ρ w' hX hG hk => ?_⟩, ?_⟩
      · cases hG
      refine ⟨⟨fun _ _ u hu => .inr rfl, fun ρ w' hX hG hk => ?_⟩, ?_⟩
      · cases hG
      refine ⟨⟨fun _ _ u hu => .inr rfl, fun ρ w' hX hG hk => ?_⟩, ?_⟩
      · cases hG
      refine ⟨⟨fun _ _ u hu => .inr rfl, fun ρ w' hX hG hk => ?_⟩, ?_⟩
      · cases hG
      refine ⟨⟨fun _ _ u hu => .inr rfl, fun ρ w' hX hG hk => ?_⟩, ?_⟩
      · cases hG
      refine ⟨⟨fun _ _ u hu => .inr rfl, fun ρ w' hX hG hk => ?_⟩, ?_⟩
      · cases hG
      refine ⟨⟨fun _ _ u hu => .inr rfl, fun ρ w' hX hG hk => ?_⟩, ?_⟩
      · cases hG
      refine ⟨⟨fun _ _ u hu => .inl hu, fun ρ w' hX hG hk => ?_⟩, ?_⟩
      · obtain ⟨k0, k1, k2, -⟩ := hk
        have e0 : ρ (.tmp 41) = Value.bool true := k0
        have e1 : ρ (Operand.const (Value.bool true)) = (Value.bool true) := k1
        have e2 : ρ (.tmp 52) = undef := k2
        clear k0 k1 k2
        refine Par.val_k fun K hK => ?_
        unfold Par.val
        (go_simp; exact hK _ _ ⟨Ext.refl _, rfl⟩)
      refine ⟨⟨fun _ _ => trivial, fun ρ w' hX hG hk => ?_⟩, ?_⟩
      · obtain ⟨k0, k1, k2, -⟩ := hk
        have e0 : ρ (.tmp 37) = Value.bool true := k0
        have e1 : ρ (.tmp 53) = Value.bool true := k1
        have e2 : ρ (Operand.const (Value.bool false)) = (Value.bool false) := k2
        clear k0 k1 k2
        refine Par.val_k fun K hK => ?_
        unfold Par.val
        (go_simp; exact hK _ _ ⟨Ext.refl _, rfl⟩)
      refine ⟨⟨fun _ _ => trivial, fun ρ w' hX hG hk => ?_⟩, ?_⟩
      · exact Par.val_of_run rfl ⟨Ext.refl _, hk.1⟩
      trivial
    intro a' w' inv
    have hX := inv.ext
    have q14 : a'.tmps.getD 14 undef = Value.agg #[Value.int IntKind.i64 x.s, Value.int IntKind.i64 x.c, Value.int IntKind.u64 x.d, Value.int IntKind.u64 x.t] := inv.done 0 _ 14 rfl rfl rfl
    have q15 : a'.tmps.getD 15 undef = Value.int IntKind.u64 now := inv.done 1 _ 15 rfl rfl rfl
    have q16 : a'.tmps.getD 16 undef = Value.int IntKind.i64 most := inv.done 2 _ 16 rfl rfl rfl
    have q17 : a'.tmps.getD 17 undef = lv (passL x now most) := inv.done 3 _ 17 rfl rfl rfl
    have q18 : a'.tmps.getD 18 undef = Value.int IntKind.u64 later := inv.done 4 _ 18 rfl rfl rfl
    have q19 : a'.tmps.getD 19 undef = Value.int IntKind.i64 most := inv.done 5 _ 19 rfl rfl rfl
    have q20 : a'.tmps.getD 20 undef = lv (passL x later most) := inv.done 6 _ 20 rfl rfl rfl
    have q21 : a'.tmps.getD 21 undef = Value.agg #[Value.int IntKind.i64 x.s, Value.int IntKind.i64 x.c, Value.int IntKind.u64 x.d, Value.int IntKind.u64 x.t] := inv.done 7 _ 21 rfl rfl rfl
    have q22 : a'.tmps.getD 22 undef = Value.int IntKind.u64 later := inv.done 8 _ 22 rfl rfl rfl
    have q23 : a'.tmps.getD 23 undef = Value.int IntKind.i64 most := inv.done 9 _ 23 rfl rfl rfl
    have q24 : a'.tmps.getD 24 undef = lv (passL x later most) := inv.done 10 _ 24 rfl rfl rfl
    have q25 : a'.tmps.getD 25 undef = Value.bool true := inv.done 11 _ 25 rfl rfl rfl
    have q26 : a'.tmps.getD 26 undef = Value.bool true := inv.done 12 _ 26 rfl rfl rfl
    have q27 : a'.tmps.getD 27 undef = Value.agg #[Value.int IntKind.i64 x.s, Value.int IntKind.i64 x.c, Value.int IntKind.u64 x.d, Value.int IntKind.u64 x.t] := inv.done 13 _ 27 rfl rfl rfl
    have q28 : a'.tmps.getD 28 undef = Value.int IntKind.i64 most := inv.done 14 _ 28 rfl rfl rfl
    have q29 : a'.tmps.getD 29 undef = lv (resetL x most) := inv.done 15 _ 29 rfl rfl rfl
    have q30 : a'.tmps.getD 30 undef = Value.int IntKind.i64 most := inv.done 16 _ 30 rfl rfl rfl
    have q31 : a'.tmps.getD 31 undef = lv (resetL x most) := inv.done 17 _ 31 rfl rfl rfl
    have q32 : a'.tmps.getD 32 undef = Value.agg #[Value.int IntKind.i64 x.s, Value.int IntKind.i64 x.c, Value.int IntKind.u64 x.d, Value.int IntKind.u64 x.t] := inv.done 18 _ 32 rfl rfl rfl
    have q33 : a'.tmps.getD 33 undef = Value.int IntKind.i64 most := inv.done 19 _ 33 rfl rfl rfl
    have q34 : a'.tmps.getD 34 undef = lv (resetL x most) := inv.done 20 _ 34 rfl rfl rfl
    have q35 : a'.tmps.getD 35 undef = Value.bool true := inv.done 21 _ 35 rfl rfl rfl
    have q36 : a'.tmps.getD 36 undef = Value.bool true := inv.done 22 _ 36 rfl rfl rfl
    have q37 : a'.tmps.getD 37 undef = Value.bool true := inv.done 23 _ 37 rfl rfl rfl
    have q38 : a'.tmps.getD 38 undef = Value.pointer (some ⟨w.heap.size, 0, none⟩) := inv.done 24 _ 38 rfl rfl rfl
    have q39 : a'.tmps.getD 39 undef = Value.int IntKind.i64 x.s := inv.done 25 _ 39 rfl rfl rfl
    have q40 : a'.tmps.getD 40 undef = Value.bool true := inv.done 26 _ 40 rfl rfl rfl
    have q41 : a'.tmps.getD 41 undef = Value.bool true := inv.done 27 _ 41 rfl rfl rfl
    have q42 : a'.tmps.getD 42 undef = undef := inv.done 28 _ 42 rfl rfl rfl
    have q43 : a'.tmps.getD 43 undef = undef := inv.done 29 _ 43 rfl rfl rfl
    have q44 : a'.tmps.getD 44 undef = undef := inv.done 30 _ 44 rfl rfl rfl
    have q45 : a'.tmps.getD 45 undef = undef := inv.done 31 _ 45 rfl rfl rfl
    have q46 : a'.tmps.getD 46 undef = undef := inv.done 32 _ 46 rfl rfl rfl
    have q47 : a'.tmps.getD 47 undef = undef := inv.done 33 _ 47 rfl rfl rfl
    have q48 : a'.tmps.getD 48 undef = undef := inv.done 34 _ 48 rfl rfl rfl
    have q49 : a'.tmps.getD 49 undef = undef := inv.done 35 _ 49 rfl rfl rfl
    have q50 : a'.tmps.getD 50 undef = undef := inv.done 36 _ 50 rfl rfl rfl
    have q51 : a'.tmps.getD 51 undef = undef := inv.done 37 _ 51 rfl rfl rfl
    have q52 : a'.tmps.getD 52 undef = undef := inv.done 38 _ 52 rfl rfl rfl
    have q53 : a'.tmps.getD 53 undef = Value.bool true := inv.done 39 _ 53 rfl rfl rfl
    have q54 : a'.tmps.getD 54 undef = Value.bool true := inv.done 40 _ 54 rfl rfl rfl
    have q8 : a'.tmps.getD 8 undef = Value.bool true := inv.done 41 _ 8 rfl rfl rfl
    clear inv
    simp only [List.filterMap_cons, List.filterMap_nil, Par.putAll, Act.put, List.setIfInBounds_toArray, List.set_cons_succ, List.set_cons_zero, q14, q15, q16, q17, q18, q19, q20, q21, q22, q23, q24, q25, q26, q27, q28, q29, q30, q31, q32, q33, q34, q35, q36, q37, q38, q39, q40, q41, q42, q43, q44, q45, q46, q47, q48, q49, q50, q51, q52, q53, q54, q8]
    clear q14 q15 q16 q17 q18 q19 q20 q21 q22 q23 q24 q25 q26 q27 q28 q29 q30 q31 q32 q33 q34 q35 q36 q37 q38 q39 q40 q41 q42 q43 q44 q45 q46 q47 q48 q49 q50 q51 q52 q53 q54 q8
    clear a'
    go_wp2_with fail
    all_goals (go_ret; exact ⟨rfl, hE1.trans hX⟩)
end Go.Proofs.Ytahhafcbnkidnaa
