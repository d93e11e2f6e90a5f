/- A life: awake. -/
import Derived.Test.YtahhafcbnkidnaaLifeB
import Derived.Test.YtahhafcbnkidnaaPar
namespace Go.Proofs.Ytahhafcbnkidnaa
open Go.RowKit Go.Tum

/-- The block b holds the life x. -/
def At (w : World) (b : Nat) (x : L) : Prop := ∃ fr, w.heap[b]? = some (.cells #[.int .i64 x.s, .int .i64 x.c, .int .u64 x.d, .int .u64 x.t] 24 fr)
theorem At.ext {w w' : World} {b : Nat} {x : L} (h : At w b x) (k : Ext w w') : At w' b x := let ⟨fr, e⟩ := h; ⟨fr, k.obj e⟩
theorem At.new (w : World) (x : L) : At (w.alloc (.cells #[.int .i64 x.s, .int .i64 x.c, .int .u64 x.d, .int .u64 x.t] 24)) w.heap.size x := ⟨_, heap_alloc_new _ _⟩
theorem At.cells {w : World} {b : Nat} {x : L} (h : At w b x) : w.cell? ⟨b, 0, none⟩ = some (.int .i64 x.s) ∧ w.cell? ⟨b, 1, none⟩ = some (.int .i64 x.c) ∧ w.cell? ⟨b, 2, none⟩ = some (.int .u64 x.d) ∧ w.cell? ⟨b, 3, none⟩ = some (.int .u64 x.t) := by
  obtain ⟨fr, e⟩ := h
  refine ⟨?_, ?_, ?_, ?_⟩ <;> rw [cell_of_row w b _ _ _ _ e] <;> rfl

set_option maxRecDepth 100000 in
set_option maxHeartbeats 2000000 in
theorem awake_any (w : World) : Calls Try.prog 8 #[] w fun e w' => e = .returned (.bool true) ∧ Ext w w' := by
  go_enter Try.func8, Try.ntmps8
  go_wp2_with fail
  refine (born_any 5 0 ⟨by omega, by omega⟩ ⟨by omega, by omega⟩ _).mono ?_
  rintro e w1 ⟨rfl, hE1⟩
  rw [show waitL l0 5 0 = (⟨1, 0, 0, 0⟩, 0) by decide +kernel]
  go_wp2_with fail
  refine (lease_any ⟨1, 0, 0, 0⟩ 5 2 9 ⟨by omega, by omega⟩ ⟨by omega, by omega⟩ _).mono ?_
  rintro e w2 ⟨rfl, hw2⟩
  rw [show leaseL ⟨1, 0, 0, 0⟩ 5 2 9 = (⟨3, 1, 7, 9⟩, 0) by decide +kernel]
  have hE2 : Ext w w2 := hE1.trans ((Ext.alloc _ _).trans hw2)
  have B1 := hid ((At.new w1 ⟨1, 0, 0, 0⟩).ext hw2)
  generalize w1.heap.size = b1 at *
  clear hw2 hE1
  go_wp2_with fail
  refine (nack_any ⟨3, 1, 7, 9⟩ 9 6 1 1 ⟨by omega, by omega⟩ ⟨by omega, by omega⟩ _).mono ?_
  rintro e w3 ⟨rfl, hw3⟩
  rw [show nackL ⟨3, 1, 7, 9⟩ 9 6 1 1 = (⟨4, 1, 0, 0⟩, 0) by decide +kernel]
  have hE3 : Ext w w3 := hE2.trans ((Ext.alloc _ _).trans hw3)
  have B1' : Hid (At w3 b1 ⟨1, 0, 0, 0⟩) := hid ((B1.out.ext (Ext.alloc _ _)).ext hw3)
  have B3 := hid ((At.new w2 ⟨3, 1, 7, 9⟩).ext hw3)
  generalize w2.heap.size = b3 at *
  clear hw3 hE2 B1
  obtain ⟨c0, c1, c2, c3⟩ := (B3.out.ext (Ext.alloc w3 (.cells #[.int .i64 4, .int .i64 1, .int .u64 0, .int .u64 0] 24))).cells
  go_wp2_with fail
  refine (ack_any ⟨3, 1, 7, 9⟩ 8 _).mono ?_
  rintro e w4 ⟨rfl, hw4⟩
  rw [show ackL ⟨3, 1, 7, 9⟩ 8 = (⟨0, 0, 0, 0⟩, 9) by decide +kernel]
  have hE4 : Ext w w4 := hE3.trans ((Ext.alloc _ _).trans hw4)
  have hx : Ext w3 w4 := (Ext.alloc _ _).trans hw4
  have B1 : Hid (At w4 b1 ⟨1, 0, 0, 0⟩) := hid (B1'.out.ext hx)
  have B3' : Hid (At w4 b3 ⟨3, 1, 7, 9⟩) := hid (B3.out.ext hx)
  have B5 := hid ((At.new w3 ⟨4, 1, 0, 0⟩).ext hw4)
  generalize w3.heap.size = b5 at *
  clear hw4 hE3 B1' hx c0 c1 c2 c3 B3
  obtain ⟨c0, c1, c2, c3⟩ := (B5.out.ext (Ext.alloc w4 (.cells #[.int .i64 0, .int .i64 0, .int .u64 0, .int .u64 0] 24))).cells
  go_wp2_with fail
  refine (requeue_any ⟨4, 1, 0, 0⟩ _).mono ?_
  rintro e w5 ⟨rfl, hw5⟩
  rw [show deadL ⟨4, 1, 0, 0⟩ 1 = (⟨1, 0, 0, 0⟩, 0) by decide +kernel]
  have hE5 : Ext w w5 := hE4.trans ((Ext.alloc _ _).trans hw5)
  have hx : Ext w4 w5 := (Ext.alloc _ _).trans hw5
  have B1' : Hid (At w5 b1 ⟨1, 0, 0, 0⟩) := hid (B1.out.ext hx)
  have B3 : Hid (At w5 b3 ⟨3, 1, 7, 9⟩) := hid (B3'.out.ext hx)
  have B5' : Hid (At w5 b5 ⟨4, 1, 0, 0⟩) := hid (B5.out.ext hx)
  generalize w4.heap.size = b7 at *
  clear hw5 hE4 B1 hx c0 c1 c2 c3 B3' B5
  go_wp2_with fail
  refine (born_any 1 18446744073709551615 ⟨by omega, by omega⟩ ⟨by omega, by omega⟩ _).mono ?_
  rintro e w6 ⟨rfl, hw6⟩
  rw [show waitL l0 1 18446744073709551615 = (⟨0, 0, 0, 0⟩, 10) by decide +kernel]
  have hE6 : Ext w w6 := hE5.trans ((Ext.alloc _ _).trans hw6)
  have hx : Ext w5 w6 := (Ext.alloc _ _).trans hw6
  have hE7 : Ext w (w6.alloc (.cells #[.int .i64 0, .int .i64 0, .int .u64 0, .int .u64 0] 24)) := hE6.trans (Ext.alloc _ _)
  have hy : Ext w5 (w6.alloc (.cells #[.int .i64 0, .int .i64 0, .int .u64 0, .int .u64 0] 24)) := hx.trans (Ext.alloc _ _)
  have B1 := hid (B1'.out.ext hy)
  have B3' := hid (B3.out.ext hy)
  have B5 := hid (B5'.out.ext hy)
  have B9 := hid (((At.new w5 ⟨1, 0, 0, 0⟩).ext hw6).ext (Ext.alloc w6 (.cells #[.int .i64 0, .int .i64 0, .int .u64 0, .int .u64 0] 24)))
  generalize w5.heap.size = b9 at *
  clear hw6 hE5 B1' hx hy hE6 B3 B5'
  go_wp2_with fail
  generalize w6.heap.size = b11 at *
  generalize (w6.alloc (.cells #[.int .i64 0, .int .i64 0, .int .u64 0, .int .u64 0] 24)) = W at *
  refine Par.wp_region_par (l := [_, _, _, _, _, _, _, _, _, _, _, _, _, _, _, _, _, _, _, _, _, _, _, _, _, _, _, _, _, _, _, _, _, _, _, _, _, _, _, _, _, _, _, _, _, _, _, _, _, _, _, _, _, _, _]) rfl Ext (Par.VL [Par.EQ (Value.agg #[Value.int IntKind.i64 1, Value.int IntKind.i64 0, Value.int IntKind.u64 0, Value.int IntKind.u64 0]), Par.EQ (Value.agg #[Value.int IntKind.i64 1, Value.int IntKind.i64 0, Value.int IntKind.u64 0, Value.int IntKind.u64 0]), Par.EQ (Value.bool true), Par.EQ (Value.bool true), Par.EQ (Value.int IntKind.i64 0), Par.EQ (Value.bool true), Par.EQ (Value.bool true), Par.EQ (Value.bool true), Par.EQ (Value.agg #[Value.int IntKind.i64 3, Value.int IntKind.i64 1, Value.int IntKind.u64 7, Value.int IntKind.u64 9]), Par.EQ (Value.agg #[Value.int IntKind.i64 3, Value.int IntKind.i64 1, Value.int IntKind.u64 7, Value.int IntKind.u64 9]), Par.EQ (Value.bool true), Par.EQ (Value.bool true), Par.EQ (Value.bool true), Par.EQ (Value.int IntKind.i64 0), Par.EQ (Value.bool true), Par.EQ (Value.bool true), Par.EQ (Value.bool true), Par.EQ (Value.agg #[Value.int IntKind.i64 4, Value.int IntKind.i64 1, Value.int IntKind.u64 0, Value.int IntKind.u64 0]), Par.EQ (Value.agg #[Value.int IntKind.i64 4, Value.int IntKind.i64 1, Value.int IntKind.u64 0, Value.int IntKind.u64 0]), Par.EQ (Value.bool true), Par.EQ (Value.bool true), Par.EQ (Value.bool true), Par.EQ (Value.int IntKind.i64 0), Par.EQ (Value.bool true), Par.EQ (Value.bool true), Par.EQ (Value.bool true), Par.EQ (Value.int IntKind.i64 9), Par.EQ (Value.bool true), Par.EQ (Value.bool true), Par.EQ (Value.bool true), Par.EQ (Value.agg #[Value.int IntKind.i64 1, Value.int IntKind.i64 0, Value.int IntKind.u64 0, Value.int IntKind.u64 0]), Par.EQ (Value.agg #[Value.int IntKind.i64 1, Value.int IntKind.i64 0, Value.int IntKind.u64 0, Value.int IntKind.u64 0]), Par.EQ (Value.bool true), Par.EQ (Value.bool true), Par.EQ (Value.bool true), Par.EQ (Value.int IntKind.i64 0), Par.EQ (Value.bool true), Par.EQ (Value.bool true), Par.EQ (Value.bool true), Par.EQ (Value.int IntKind.i64 10), Par.EQ (Value.bool true), Par.EQ (Value.bool true), Par.EQ (Value.bool true), Par.EQ (Value.agg #[Value.int IntKind.i64 3, Value.int IntKind.i64 1, Value.int IntKind.u64 7, Value.int IntKind.u64 9]), Par.EQ (Value.agg #[Value.int IntKind.i64 3, Value.int IntKind.i64 1, Value.int IntKind.u64 7, Value.int IntKind.u64 9]), Par.EQ (Value.agg #[Value.int IntKind.i64 3, Value.int IntKind.i64 1, Value.int IntKind.u64 7, Value.int IntKind.u64 9]), Par.EQ (Value.bool true), Par.EQ (Value.bool true), Par.EQ (Value.bool true), Par.EQ (Value.agg #[Value.int IntKind.i64 3, Value.int IntKind.i64 1, Value.int IntKind.u64 7, Value.int IntKind.u64 9]), Par.EQ (Value.agg #[Value.int IntKind.i64 1, Value.int IntKind.i64 1, Value.int IntKind.u64 0, Value.int IntKind.u64 0]), Par.EQ (Value.agg #[Value.int IntKind.i64 1, Value.int IntKind.i64 1, Value.int IntKind.u64 0, Value.int IntKind.u64 0]), Par.EQ (Value.bool true), Par.EQ (Value.bool true), Par.EQ (Value.bool true)]) (by kernel_rfl) Ext.refl (fun _ _ _ h1 h2 => Ext.trans h1 h2) (Ext.draw _) (Par.VL_stab ?_) ?_ ?_
  · simp only [List.forall_mem_cons, List.not_mem_nil, false_implies, implies_true, and_true]
    refine ⟨fun _ _ _ _ h => h, fun _ _ _ _ h => h, fun _ _ _ _ h => h, fun _ _ _ _ h => h, fun _ _ _ _ h => h, fun _ _ _ _ h => h, fun _ _ _ _ h => h, fun _ _ _ _ h => h, fun _ _ _ _ h => h, fun _ _ _ _ h => h, fun _ _ _ _ h => h, fun _ _ _ _ h => h, fun _ _ _ _ h => h, fun _ _ _ _ h => h, fun _ _ _ _ h => h, fun _ _ _ _ h => h, fun _ _ _ _ h => h, fun _ _ _ _ h => h, fun _ _ _ _ h => h, fun _ _ _ _ h => h, fun _ _ _ _ h => h, fun _ _ _ _ h => h, fun _ _ _ _ h => h, fun _ _ _ _ h => h, fun _ _ _ _ h => h, fun _ _ _ _ h => h, fun _ _ _ _ h => h, fun _ _ _ _ h => h, fun _ _ _ _ h => h, fun _ _ _ _ h => h, fun _ _ _ _ h => h, fun _ _ _ _ h => h, fun _ _ _ _ h => h, fun _ _ _ _ h => h, fun _ _ _ _ h => h, fun _ _ _ _ h => h, fun _ _ _ _ h => h, fun _ _ _ _ h => h, fun _ _ _ _ h => h, fun _ _ _ _ h => h, fun _ _ _ _ h => h, fun _ _ _ _ h => h, fun _ _ _ _ h => h, fun _ _ _ _ h => h, fun _ _ _ _ h => h, fun _ _ _ _ h => h, fun _ _ _ _ h => h, fun _ _ _ _ h => h, fun _ _ _ _ h => h, fun _ _ _ _ h => h, fun _ _ _ _ h => h, fun _ _ _ _ h => h, fun _ _ _ _ h => h, fun _ _ _ _ h => h, fun _ _ _ _ h => h⟩
  · refine ⟨⟨fun _ _ => trivial, fun ρ w' hX hG hk => ?_⟩, ?_⟩
    · obtain ⟨k0, -⟩ := hk
      have e0 : ρ (.tmp 1) = Value.pointer (some ⟨b1, 0, none⟩) := k0
      clear k0
      refine Par.val_k fun K hK => ?_
      unfold Par.val
      (obtain ⟨c0, c1, c2, c3⟩ := (B1.out.ext hX).cells; go_simp; exact hK _ _ ⟨Ext.refl _, rfl⟩)
    refine ⟨⟨fun _ _ => trivial, fun ρ w' hX hG hk => ?_⟩, ?_⟩
    · obtain ⟨k0, -⟩ := hk
      have e0 : ρ (Operand.const (Value.int IntKind.i64 1)) = (Value.int IntKind.i64 1) := k0
      clear k0
      refine Par.val_k fun K hK => ?_
      unfold Par.val
      (go_simp; exact hK _ _ ⟨Ext.refl _, rfl⟩)
    refine ⟨⟨fun _ _ => trivial, fun ρ w' hX hG hk => ?_⟩, ?_⟩
    · obtain ⟨k0, k1, -⟩ := hk
      have e0 : ρ (.tmp 41) = Value.agg #[Value.int IntKind.i64 1, Value.int IntKind.i64 0, Value.int IntKind.u64 0, Value.int IntKind.u64 0] := k0
      have e1 : ρ (.tmp 42) = Value.agg #[Value.int IntKind.i64 1, Value.int IntKind.i64 0, Value.int IntKind.u64 0, Value.int IntKind.u64 0] := k1
      clear k0 k1
      refine Par.val_k fun K hK => ?_
      unfold Par.val
      (go_simp; exact hK _ _ ⟨Ext.refl _, rfl⟩)
    refine ⟨⟨fun _ _ => trivial, fun ρ w' hX hG hk => ?_⟩, ?_⟩
    · exact Par.val_of_run rfl ⟨Ext.refl _, hk.1⟩
    refine ⟨⟨fun _ _ u hu => .inl hu, fun ρ w' hX hG hk => ?_⟩, ?_⟩
    · exact Par.val_of_run rfl ⟨Ext.refl _, hk.1⟩
    refine ⟨⟨fun _ _ u hu => .inl hu, fun ρ w' hX hG hk => ?_⟩, ?_⟩
    · obtain ⟨k0, k1, -⟩ := hk
      have e0 : ρ (.tmp 45) = Value.int IntKind.i64 0 := k0
      have e1 : ρ (Operand.const (Value.int IntKind.i64 0)) = (Value.int IntKind.i64 0) := k1
      clear k0 k1
      refine Par.val_k fun K hK => ?_
      unfold Par.val
      (go_simp; exact hK _ _ ⟨Ext.refl _, rfl⟩)
    refine ⟨⟨fun _ _ => trivial, fun ρ w' hX hG hk => ?_⟩, ?_⟩
    · obtain ⟨k0, k1, k2, -⟩ := hk
      have e0 : ρ (.tmp 44) = Value.bool true := k0
      have e1 : ρ (.tmp 46) = Value.bool true := k1
      have e2 : ρ (Operand.const (Value.bool false)) = (Value.bool false) := k2
      clear k0 k1 k2
      refine Par.val_k fun K hK => ?_
      unfold Par.val
      (go_simp; exact hK _ _ ⟨Ext.refl _, rfl⟩)
    refine ⟨⟨fun _ _ => trivial, fun ρ w' hX hG hk => ?_⟩, ?_⟩
    · exact Par.val_of_run rfl ⟨Ext.refl _, hk.1⟩
    refine ⟨⟨fun _ _ u hu => .inl hu, fun ρ w' hX hG hk => ?_⟩, ?_⟩
    · obtain ⟨k0, -⟩ := hk
      have e0 : ρ (.tmp 3) = Value.pointer (some ⟨b3, 0, none⟩) := k0
      clear k0
      refine Par.val_k fun K hK => ?_
      unfold Par.val
      (obtain ⟨c0, c1, c2, c3⟩ := (B3'.out.ext hX).cells; go_simp; exact hK _ _ ⟨Ext.refl _, rfl⟩)
    refine ⟨⟨fun _ _ u hu => .inl hu, fun ρ w' hX hG hk => ?_⟩, ?_⟩
    · obtain ⟨k0, k1, k2, k3, -⟩ := hk
      have e0 : ρ (Operand.const (Value.int IntKind.i64 3)) = (Value.int IntKind.i64 3) := k0
      have e1 : ρ (Operand.const (Value.int IntKind.i64 1)) = (Value.int IntKind.i64 1) := k1
      have e2 : ρ (Operand.const (Value.int IntKind.u64 7)) = (Value.int IntKind.u64 7) := k2
      have e3 : ρ (Operand.const (Value.int IntKind.u64 9)) = (Value.int IntKind.u64 9) := k3
      clear k0 k1 k2 k3
      refine Par.val_k fun K hK => ?_
      unfold Par.val
      (go_simp; exact hK _ _ ⟨Ext.refl _, rfl⟩)
    refine ⟨⟨fun _ _ u hu => .inl hu, fun ρ w' hX hG hk => ?_⟩, ?_⟩
    · obtain ⟨k0, k1, -⟩ := hk
      have e0 : ρ (.tmp 49) = Value.agg #[Value.int IntKind.i64 3, Value.int IntKind.i64 1, Value.int IntKind.u64 7, Value.int IntKind.u64 9] := k0
      have e1 : ρ (.tmp 50) = Value.agg #[Value.int IntKind.i64 3, Value.int IntKind.i64 1, Value.int IntKind.u64 7, Value.int IntKind.u64 9] := k1
      clear k0 k1
      refine Par.val_k fun K hK => ?_
      unfold Par.val
      (go_simp; exact hK _ _ ⟨Ext.refl _, rfl⟩)
    refine ⟨⟨fun _ _ => trivial, fun ρ w' hX hG hk => ?_⟩, ?_⟩
    · obtain ⟨k0, k1, k2, -⟩ := hk
      have e0 : ρ (.tmp 48) = Value.bool true := k0
      have e1 : ρ (.tmp 51) = Value.bool true := k1
      have e2 : ρ (Operand.const (Value.bool false)) = (Value.bool false) := k2
      clear k0 k1 k2
      refine Par.val_k fun K hK => ?_
      unfold Par.val
      (go_simp; exact hK _ _ ⟨Ext.refl _, rfl⟩)
    refine ⟨⟨fun _ _ => trivial, fun ρ w' hX hG hk => ?_⟩, ?_⟩
    · exact Par.val_of_run rfl ⟨Ext.refl _, hk.1⟩
    refine ⟨⟨fun _ _ u hu => .inl hu, fun ρ w' hX hG hk => ?_⟩, ?_⟩
    · exact Par.val_of_run rfl ⟨Ext.refl _, hk.1⟩
    refine ⟨⟨fun _ _ u hu => .inl hu, fun ρ w' hX hG hk => ?_⟩, ?_⟩
    · obtain ⟨k0, k1, -⟩ := hk
      have e0 : ρ (.tmp 54) = Value.int IntKind.i64 0 := k0
      have e1 : ρ (Operand.const (Value.int IntKind.i64 0)) = (Value.int IntKind.i64 0) := k1
      clear k0 k1
      refine Par.val_k fun K hK => ?_
      unfold Par.val
      (go_simp; exact hK _ _ ⟨Ext.refl _, rfl⟩)
    refine ⟨⟨fun _ _ => trivial, fun ρ w' hX hG hk => ?_⟩, ?_⟩
    · obtain ⟨k0, k1, k2, -⟩ := hk
      have e0 : ρ (.tmp 53) = Value.bool true := k0
      have e1 : ρ (.tmp 55) = Value.bool true := k1
      have e2 : ρ (Operand.const (Value.bool false)) = (Value.bool false) := k2
      clear k0 k1 k2
      refine Par.val_k fun K hK => ?_
      unfold Par.val
      (go_simp; exact hK _ _ ⟨Ext.refl _, rfl⟩)
    refine ⟨⟨fun _ _ => trivial, fun ρ w' hX hG hk => ?_⟩, ?_⟩
    · exact Par.val_of_run rfl ⟨Ext.refl _, hk.1⟩
    refine ⟨⟨fun _ _ u hu => .inl hu, fun ρ w' hX hG hk => ?_⟩, ?_⟩
    · obtain ⟨k0, -⟩ := hk
      have e0 : ρ (.tmp 5) = Value.pointer (some ⟨b5, 0, none⟩) := k0
      clear k0
      refine Par.val_k fun K hK => ?_
      unfold Par.val
      (obtain ⟨c0, c1, c2, c3⟩ := (B5.out.ext hX).cells; go_simp; exact hK _ _ ⟨Ext.refl _, rfl⟩)
    refine ⟨⟨fun _ _ u hu => .inl hu, fun ρ w' hX hG hk => ?_⟩, ?_⟩
    · obtain ⟨k0, k1, -⟩ := hk
      have e0 : ρ (Operand.const (Value.int IntKind.i64 4)) = (Value.int IntKind.i64 4) := k0
      have e1 : ρ (Operand.const (Value.int IntKind.i64 1)) = (Value.int IntKind.i64 1) := k1
      clear k0 k1
      refine Par.val_k fun K hK => ?_
      unfold Par.val
      (go_simp; exact hK _ _ ⟨Ext.refl _, rfl⟩)
    refine ⟨⟨fun _ _ u hu => .inl hu, fun ρ w' hX hG hk => ?_⟩, ?_⟩
    · obtain ⟨k0, k1, -⟩ := hk
      have e0 : ρ (.tmp 58) = Value.agg #[Value.int IntKind.i64 4, Value.int IntKind.i64 1, Value.int IntKind.u64 0, Value.int IntKind.u64 0] := k0
      have e1 : ρ (.tmp 59) = Value.agg #[Value.int IntKind.i64 4, Value.int IntKind.i64 1, Value.int IntKind.u64 0, Value.int IntKind.u64 0] := k1
      clear k0 k1
      refine Par.val_k fun K hK => ?_
      unfold Par.val
      (go_simp; exact hK _ _ ⟨Ext.refl _, rfl⟩)
    refine ⟨⟨fun _ _ => trivial, fun ρ w' hX hG hk => ?_⟩, ?_⟩
    · obtain ⟨k0, k1, k2, -⟩ := hk
      have e0 : ρ (.tmp 57) = Value.bool true := k0
      have e1 : ρ (.tmp 60) = Value.bool true := k1
      have e2 : ρ (Operand.const (Value.bool false)) = (Value.bool false) := k2
      clear k0 k1 k2
      refine Par.val_k fun K hK => ?_
      unfold Par.val
      (go_simp; exact hK _ _ ⟨Ext.refl _, rfl⟩)
    refine ⟨⟨fun _ _ => trivial, fun ρ w' hX hG hk => ?_⟩, ?_⟩
    · exact Par.val_of_run rfl ⟨Ext.refl _, hk.1⟩
    refine ⟨⟨fun _ _ u hu => .inl hu, fun ρ w' hX hG hk => ?_⟩, ?_⟩
    · exact Par.val_of_run rfl ⟨Ext.refl _, hk.1⟩
    refine ⟨⟨fun _ _ u hu => .inl hu, fun ρ w' hX hG hk => ?_⟩, ?_⟩
    · obtain ⟨k0, k1, -⟩ := hk
      have e0 : ρ (.tmp 63) = Value.int IntKind.i64 0 := k0
      have e1 : ρ (Operand.const (Value.int IntKind.i64 0)) = (Value.int IntKind.i64 0) := k1
      clear k0 k1
      refine Par.val_k fun K hK => ?_
      unfold Par.val
      (go_simp; exact hK _ _ ⟨Ext.refl _, rfl⟩)
    refine ⟨⟨fun _ _ => trivial, fun ρ w' hX hG hk => ?_⟩, ?_⟩
    · obtain ⟨k0, k1, k2, -⟩ := hk
      have e0 : ρ (.tmp 62) = Value.bool true := k0
      have e1 : ρ (.tmp 64) = Value.bool true := k1
      have e2 : ρ (Operand.const (Value.bool false)) = (Value.bool false) := k2
      clear k0 k1 k2
      refine Par.val_k fun K hK => ?_
      unfold Par.val
      (go_simp; exact hK _ _ ⟨Ext.refl _, rfl⟩)
    refine ⟨⟨fun _ _ => trivial, fun ρ w' hX hG hk => ?_⟩, ?_⟩
    · exact Par.val_of_run rfl ⟨Ext.refl _, hk.1⟩
    refine ⟨⟨fun _ _ u hu => .inl hu, fun ρ w' hX hG hk => ?_⟩, ?_⟩
    · exact Par.val_of_run rfl ⟨Ext.refl _, hk.1⟩
    refine ⟨⟨fun _ _ u hu => .inl hu, fun ρ w' hX hG hk => ?_⟩, ?_⟩
    · obtain ⟨k0, k1, -⟩ := hk
      have e0 : ρ (.tmp 67) = Value.int IntKind.i64 9 := k0
      have e1 : ρ (Operand.const (Value.int IntKind.i64 9)) = (Value.int IntKind.i64 9) := k1
      clear k0 k1
      refine Par.val_k fun K hK => ?_
      unfold Par.val
      (go_simp; exact hK _ _ ⟨Ext.refl _, rfl⟩)
    refine ⟨⟨fun _ _ => trivial, fun ρ w' hX hG hk => ?_⟩, ?_⟩
    · obtain ⟨k0, k1, k2, -⟩ := hk
      have e0 : ρ (.tmp 66) = Value.bool true := k0
      have e1 : ρ (.tmp 68) = Value.bool true := k1
      have e2 : ρ (Operand.const (Value.bool false)) = (Value.bool false) := k2
      clear k0 k1 k2
      refine Par.val_k fun K hK => ?_
      unfold Par.val
      (go_simp; exact hK _ _ ⟨Ext.refl _, rfl⟩)
    refine ⟨⟨fun _ _ => trivial, fun ρ w' hX hG hk => ?_⟩, ?_⟩
    · exact Par.val_of_run rfl ⟨Ext.refl _, hk.1⟩
    refine ⟨⟨fun _ _ u hu => .inl hu, fun ρ w' hX hG hk => ?_⟩, ?_⟩
    · obtain ⟨k0, -⟩ := hk
      have e0 : ρ (.tmp 9) = Value.pointer (some ⟨b9, 0, none⟩) := k0
      clear k0
      refine Par.val_k fun K hK => ?_
      unfold Par.val
      (obtain ⟨c0, c1, c2, c3⟩ := (B9.out.ext hX).cells; go_simp; exact hK _ _ ⟨Ext.refl _, rfl⟩)
    refine ⟨⟨fun _ _ u hu => .inl hu, fun ρ w' hX hG hk => ?_⟩, ?_⟩
    · obtain ⟨k0, -⟩ := hk
      have e0 : ρ (Operand.const (Value.int IntKind.i64 1)) = (Value.int IntKind.i64 1) := k0
      clear k0
      refine Par.val_k fun K hK => ?_
      unfold Par.val
      (go_simp; exact hK _ _ ⟨Ext.refl _, rfl⟩)
    refine ⟨⟨fun _ _ u hu => .inl hu, fun ρ w' hX hG hk => ?_⟩, ?_⟩
    · obtain ⟨k0, k1, -⟩ := hk
      have e0 : ρ (.tmp 71) = Value.agg #[Value.int IntKind.i64 1, Value.int IntKind.i64 0, Value.int IntKind.u64 0, Value.int IntKind.u64 0] := k0
      have e1 : ρ (.tmp 72) = Value.agg #[Value.int IntKind.i64 1, Value.int IntKind.i64 0, Value.int IntKind.u64 0, Value.int IntKind.u64 0] := k1
      clear k0 k1
      refine Par.val_k fun K hK => ?_
      unfold Par.val
      (go_simp; exact hK _ _ ⟨Ext.refl _, rfl⟩)
    refine ⟨⟨fun _ _ => trivial, fun ρ w' hX hG hk => ?_⟩, ?_⟩
    · obtain ⟨k0, k1, k2, -⟩ := hk
      have e0 : ρ (.tmp 70) = Value.bool true := k0
      have e1 : ρ (.tmp 73) = Value.bool true := k1
      have e2 : ρ (Operand.const (Value.bool false)) = (Value.bool false) := k2
      clear k0 k1 k2
      refine Par.val_k fun K hK => ?_
      unfold Par.val
      (go_simp; exact hK _ _ ⟨Ext.refl _, rfl⟩)
    refine ⟨⟨fun _ _ => trivial, fun ρ w' hX hG hk => ?_⟩, ?_⟩
    · exact Par.val_of_run rfl ⟨Ext.refl _, hk.1⟩
    refine ⟨⟨fun _ _ u hu => .inl hu, fun ρ w' hX hG hk => ?_⟩, ?_⟩
    · exact Par.val_of_run rfl ⟨Ext.refl _, hk.1⟩
    refine ⟨⟨fun _ _ u hu => .inl hu, fun ρ w' hX hG hk => ?_⟩, ?_⟩
    · obtain ⟨k0, k1, -⟩ := hk
      have e0 : ρ (.tmp 76) = Value.int IntKind.i64 0 := k0
      have e1 : ρ (Operand.const (Value.int IntKind.i64 0)) = (Value.int IntKind.i64 0) := k1
      clear k0 k1
      refine Par.val_k fun K hK => ?_
      unfold Par.val
      (go_simp; exact hK _ _ ⟨Ext.refl _, rfl⟩)
    refine ⟨⟨fun _ _ => trivial, fun ρ w' hX hG hk => ?_⟩, ?_⟩
    · obtain ⟨k0, k1, k2, -⟩ := hk
      have e0 : ρ (.tmp 75) = Value.bool true := k0
      have e1 : ρ (.tmp 77) = Value.bool true := k1
      have e2 : ρ (Operand.const (Value.bool false)) = (Value.bool false) := k2
      clear k0 k1 k2
      refine Par.val_k fun K hK => ?_
      unfold Par.val
      (go_simp; exact hK _ _ ⟨Ext.refl _, rfl⟩)
    refine ⟨⟨fun _ _ => trivial, fun ρ w' hX hG hk => ?_⟩, ?_⟩
    · exact Par.val_of_run rfl ⟨Ext.refl _, hk.1⟩
    refine ⟨⟨fun _ _ u hu => .inl hu, fun ρ w' hX hG hk => ?_⟩, ?_⟩
    · exact Par.val_of_run rfl ⟨Ext.refl _, hk.1⟩
    refine ⟨⟨fun _ _ u hu => .inl hu, fun ρ w' hX hG hk => ?_⟩, ?_⟩
    · obtain ⟨k0, k1, -⟩ := hk
      have e0 : ρ (.tmp 80) = Value.int IntKind.i64 10 := k0
      have e1 : ρ (Operand.const (Value.int IntKind.i64 10)) = (Value.int IntKind.i64 10) := k1
      clear k0 k1
      refine Par.val_k fun K hK => ?_
      unfold Par.val
      (go_simp; exact hK _ _ ⟨Ext.refl _, rfl⟩)
    refine ⟨⟨fun _ _ => trivial, fun ρ w' hX hG hk => ?_⟩, ?_⟩
    · obtain ⟨k0, k1, k2, -⟩ := hk
      have e0 : ρ (.tmp 79) = Value.bool true := k0
      have e1 : ρ (.tmp 81) = Value.bool true := k1
      have e2 : ρ (Operand.const (Value.bool false)) = (Value.bool false) := k2
      clear k0 k1 k2
      refine Par.val_k fun K hK => ?_
      unfold Par.val
      (go_simp; exact hK _ _ ⟨Ext.refl _, rfl⟩)
    refine ⟨⟨fun _ _ => trivial, fun ρ w' hX hG hk => ?_⟩, ?_⟩
    · exact Par.val_of_run rfl ⟨Ext.refl _, hk.1⟩
    refine ⟨⟨fun _ _ u hu => .inl hu, fun ρ w' hX hG hk => ?_⟩, ?_⟩
    · obtain ⟨k0, -⟩ := hk
      have e0 : ρ (.tmp 3) = Value.pointer (some ⟨b3, 0, none⟩) := k0
      clear k0
      refine Par.val_k fun K hK => ?_
      unfold Par.val
      (obtain ⟨c0, c1, c2, c3⟩ := (B3'.out.ext hX).cells; go_simp; exact hK _ _ ⟨Ext.refl _, rfl⟩)
    refine ⟨⟨fun _ _ u hu => .inl hu, fun ρ w' hX hG hk => ?_⟩, ?_⟩
    · obtain ⟨k0, k1, k2, k3, -⟩ := hk
      have e0 := k0
      have e1 : ρ (.tmp 84) = Value.agg #[Value.int IntKind.i64 3, Value.int IntKind.i64 1, Value.int IntKind.u64 7, Value.int IntKind.u64 9] := k1
      have e2 : ρ (Operand.const (Value.int IntKind.u64 6)) = (Value.int IntKind.u64 6) := k2
      have e3 : ρ (Operand.const (Value.int IntKind.i64 1)) = (Value.int IntKind.i64 1) := k3
      clear k0 k1 k2 k3
      refine Par.val_k fun K hK => ?_
      unfold Par.val
      refine Par.val_call Try.func18 (by kernel_rfl) rfl e0 ?_
      simp only [List.map_toArray, List.map_cons, List.map_nil, e1, e2, e3]
      refine (pass_any ⟨3, 1, 7, 9⟩ 6 1 _).mono ?_
      rintro e w2 ⟨rfl, h2⟩
      exact ⟨_, rfl, hK _ _ ⟨h2, (congrArg lv (show passL ⟨3, 1, 7, 9⟩ 6 1 = ⟨3, 1, 7, 9⟩ by decide +kernel))⟩⟩
    refine ⟨⟨fun _ _ u hu => .inl hu, fun ρ w' hX hG hk => ?_⟩, ?_⟩
    · obtain ⟨k0, -⟩ := hk
      have e0 : ρ (.tmp 3) = Value.pointer (some ⟨b3, 0, none⟩) := k0
      clear k0
      refine Par.val_k fun K hK => ?_
      unfold Par.val
      (obtain ⟨c0, c1, c2, c3⟩ := (B3'.out.ext hX).cells; go_simp; exact hK _ _ ⟨Ext.refl _, rfl⟩)
    refine ⟨⟨fun _ _ u hu => .inl hu, fun ρ w' hX hG hk => ?_⟩, ?_⟩
    · obtain ⟨k0, k1, -⟩ := hk
      have e0 : ρ (.tmp 85) = Value.agg #[Value.int IntKind.i64 3, Value.int IntKind.i64 1, Value.int IntKind.u64 7, Value.int IntKind.u64 9] := k0
      have e1 : ρ (.tmp 86) = Value.agg #[Value.int IntKind.i64 3, Value.int IntKind.i64 1, Value.int IntKind.u64 7, Value.int IntKind.u64 9] := k1
      clear k0 k1
      refine Par.val_k fun K hK => ?_
      unfold Par.val
      (go_simp; exact hK _ _ ⟨Ext.refl _, rfl⟩)
    refine ⟨⟨fun _ _ => trivial, fun ρ w' hX hG hk => ?_⟩, ?_⟩
    · obtain ⟨k0, k1, k2, -⟩ := hk
      have e0 : ρ (.tmp 83) = Value.bool true := k0
      have e1 : ρ (.tmp 87) = Value.bool true := k1
      have e2 : ρ (Operand.const (Value.bool false)) = (Value.bool false) := k2
      clear k0 k1 k2
      refine Par.val_k fun K hK => ?_
      unfold Par.val
      (go_simp; exact hK _ _ ⟨Ext.refl _, rfl⟩)
    refine ⟨⟨fun _ _ => trivial, fun ρ w' hX hG hk => ?_⟩, ?_⟩
    · exact Par.val_of_run rfl ⟨Ext.refl _, hk.1⟩
    refine ⟨⟨fun _ _ u hu => .inl hu, fun ρ w' hX hG hk => ?_⟩, ?_⟩
    · obtain ⟨k0, -⟩ := hk
      have e0 : ρ (.tmp 3) = Value.pointer (some ⟨b3, 0, none⟩) := k0
      clear k0
      refine Par.val_k fun K hK => ?_
      unfold Par.val
      (obtain ⟨c0, c1, c2, c3⟩ := (B3'.out.ext hX).cells; go_simp; exact hK _ _ ⟨Ext.refl _, rfl⟩)
    refine ⟨⟨fun _ _ u hu => .inl hu, fun ρ w' hX hG hk => ?_⟩, ?_⟩
    · obtain ⟨k0, k1, k2, k3, -⟩ := hk
      have e0 := k0
      have e1 : ρ (.tmp 90) = Value.agg #[Value.int IntKind.i64 3, Value.int IntKind.i64 1, Value.int IntKind.u64 7, Value.int IntKind.u64 9] := k1
      have e2 : ρ (Operand.const (Value.int IntKind.u64 7)) = (Value.int IntKind.u64 7) := k2
      have e3 : ρ (Operand.const (Value.int IntKind.i64 2)) = (Value.int IntKind.i64 2) := k3
      clear k0 k1 k2 k3
      refine Par.val_k fun K hK => ?_
      unfold Par.val
      refine Par.val_call Try.func18 (by kernel_rfl) rfl e0 ?_
      simp only [List.map_toArray, List.map_cons, List.map_nil, e1, e2, e3]
      refine (pass_any ⟨3, 1, 7, 9⟩ 7 2 _).mono ?_
      rintro e w2 ⟨rfl, h2⟩
      exact ⟨_, rfl, hK _ _ ⟨h2, (congrArg lv (show passL ⟨3, 1, 7, 9⟩ 7 2 = ⟨1, 1, 0, 0⟩ by decide +kernel))⟩⟩
    refine ⟨⟨fun _ _ u hu => .inl hu, fun ρ w' hX hG hk => ?_⟩, ?_⟩
    · obtain ⟨k0, k1, -⟩ := hk
      have e0 : ρ (Operand.const (Value.int IntKind.i64 1)) = (Value.int IntKind.i64 1) := k0
      have e1 : ρ (Operand.const (Value.int IntKind.i64 1)) = (Value.int IntKind.i64 1) := k1
      clear k0 k1
      refine Par.val_k fun K hK => ?_
      unfold Par.val
      (go_simp; exact hK _ _ ⟨Ext.refl _, rfl⟩)
    refine ⟨⟨fun _ _ u hu => .inl hu, fun ρ w' hX hG hk => ?_⟩, ?_⟩
    · obtain ⟨k0, k1, -⟩ := hk
      have e0 : ρ (.tmp 91) = Value.agg #[Value.int IntKind.i64 1, Value.int IntKind.i64 1, Value.int IntKind.u64 0, Value.int IntKind.u64 0] := k0
      have e1 : ρ (.tmp 92) = Value.agg #[Value.int IntKind.i64 1, Value.int IntKind.i64 1, Value.int IntKind.u64 0, Value.int IntKind.u64 0] := k1
      clear k0 k1
      refine Par.val_k fun K hK => ?_
      unfold Par.val
      (go_simp; exact hK _ _ ⟨Ext.refl _, rfl⟩)
    refine ⟨⟨fun _ _ => trivial, fun ρ w' hX hG hk => ?_⟩, ?_⟩
    · obtain ⟨k0, k1, k2, -⟩ := hk
      have e0 : ρ (.tmp 89) = Value.bool true := k0
      have e1 : ρ (.tmp 93) = Value.bool true := k1
      have e2 : ρ (Operand.const (Value.bool false)) = (Value.bool false) := k2
      clear k0 k1 k2
      refine Par.val_k fun K hK => ?_
      unfold Par.val
      (go_simp; exact hK _ _ ⟨Ext.refl _, rfl⟩)
    refine ⟨⟨fun _ _ => trivial, fun ρ w' hX hG hk => ?_⟩, ?_⟩
    · exact Par.val_of_run rfl ⟨Ext.refl _, hk.1⟩
    trivial
  intro a' w' inv
  have hX := inv.ext
  have q41 : a'.tmps.getD 41 undef = Value.agg #[Value.int IntKind.i64 1, Value.int IntKind.i64 0, Value.int IntKind.u64 0, Value.int IntKind.u64 0] := inv.done 0 _ 41 rfl rfl rfl
  have q42 : a'.tmps.getD 42 undef = Value.agg #[Value.int IntKind.i64 1, Value.int IntKind.i64 0, Value.int IntKind.u64 0, Value.int IntKind.u64 0] := inv.done 1 _ 42 rfl rfl rfl
  have q43 : a'.tmps.getD 43 undef = Value.bool true := inv.done 2 _ 43 rfl rfl rfl
  have q44 : a'.tmps.getD 44 undef = Value.bool true := inv.done 3 _ 44 rfl rfl rfl
  have q45 : a'.tmps.getD 45 undef = Value.int IntKind.i64 0 := inv.done 4 _ 45 rfl rfl rfl
  have q46 : a'.tmps.getD 46 undef = Value.bool true := inv.done 5 _ 46 rfl rfl rfl
  have q47 : a'.tmps.getD 47 undef = Value.bool true := inv.done 6 _ 47 rfl rfl rfl
  have q48 : a'.tmps.getD 48 undef = Value.bool true := inv.done 7 _ 48 rfl rfl rfl
  have q49 : a'.tmps.getD 49 undef = Value.agg #[Value.int IntKind.i64 3, Value.int IntKind.i64 1, Value.int IntKind.u64 7, Value.int IntKind.u64 9] := inv.done 8 _ 49 rfl rfl rfl
  have q50 : a'.tmps.getD 50 undef = Value.agg #[Value.int IntKind.i64 3, Value.int IntKind.i64 1, Value.int IntKind.u64 7, Value.int IntKind.u64 9] := inv.done 9 _ 50 rfl rfl rfl
  have q51 : a'.tmps.getD 51 undef = Value.bool true := inv.done 10 _ 51 rfl rfl rfl
  have q52 : a'.tmps.getD 52 undef = Value.bool true := inv.done 11 _ 52 rfl rfl rfl
  have q53 : a'.tmps.getD 53 undef = Value.bool true := inv.done 12 _ 53 rfl rfl rfl
  have q54 : a'.tmps.getD 54 undef = Value.int IntKind.i64 0 := inv.done 13 _ 54 rfl rfl rfl
  have q55 : a'.tmps.getD 55 undef = Value.bool true := inv.done 14 _ 55 rfl rfl rfl
  have q56 : a'.tmps.getD 56 undef = Value.bool true := inv.done 15 _ 56 rfl rfl rfl
  have q57 : a'.tmps.getD 57 undef = Value.bool true := inv.done 16 _ 57 rfl rfl rfl
  have q58 : a'.tmps.getD 58 undef = Value.agg #[Value.int IntKind.i64 4, Value.int IntKind.i64 1, Value.int IntKind.u64 0, Value.int IntKind.u64 0] := inv.done 17 _ 58 rfl rfl rfl
  have q59 : a'.tmps.getD 59 undef = Value.agg #[Value.int IntKind.i64 4, Value.int IntKind.i64 1, Value.int IntKind.u64 0, Value.int IntKind.u64 0] := inv.done 18 _ 59 rfl rfl rfl
  have q60 : a'.tmps.getD 60 undef = Value.bool true := inv.done 19 _ 60 rfl rfl rfl
  have q61 : a'.tmps.getD 61 undef = Value.bool true := inv.done 20 _ 61 rfl rfl rfl
  have q62 : a'.tmps.getD 62 undef = Value.bool true := inv.done 21 _ 62 rfl rfl rfl
  have q63 : a'.tmps.getD 63 undef = Value.int IntKind.i64 0 := inv.done 22 _ 63 rfl rfl rfl
  have q64 : a'.tmps.getD 64 undef = Value.bool true := inv.done 23 _ 64 rfl rfl rfl
  have q65 : a'.tmps.getD 65 undef = Value.bool true := inv.done 24 _ 65 rfl rfl rfl
  have q66 : a'.tmps.getD 66 undef = Value.bool true := inv.done 25 _ 66 rfl rfl rfl
  have q67 : a'.tmps.getD 67 undef = Value.int IntKind.i64 9 := inv.done 26 _ 67 rfl rfl rfl
  have q68 : a'.tmps.getD 68 undef = Value.bool true := inv.done 27 _ 68 rfl rfl rfl
  have q69 : a'.tmps.getD 69 undef = Value.bool true := inv.done 28 _ 69 rfl rfl rfl
  have q70 : a'.tmps.getD 70 undef = Value.bool true := inv.done 29 _ 70 rfl rfl rfl
  have q71 : a'.tmps.getD 71 undef = Value.agg #[Value.int IntKind.i64 1, Value.int IntKind.i64 0, Value.int IntKind.u64 0, Value.int IntKind.u64 0] := inv.done 30 _ 71 rfl rfl rfl
  have q72 : a'.tmps.getD 72 undef = Value.agg #[Value.int IntKind.i64 1, Value.int IntKind.i64 0, Value.int IntKind.u64 0, Value.int IntKind.u64 0] := inv.done 31 _ 72 rfl rfl rfl
  have q73 : a'.tmps.getD 73 undef = Value.bool true := inv.done 32 _ 73 rfl rfl rfl
  have q74 : a'.tmps.getD 74 undef = Value.bool true := inv.done 33 _ 74 rfl rfl rfl
  have q75 : a'.tmps.getD 75 undef = Value.bool true := inv.done 34 _ 75 rfl rfl rfl
  have q76 : a'.tmps.getD 76 undef = Value.int IntKind.i64 0 := inv.done 35 _ 76 rfl rfl rfl
  have q77 : a'.tmps.getD 77 undef = Value.bool true := inv.done 36 _ 77 rfl rfl rfl
  have q78 : a'.tmps.getD 78 undef = Value.bool true := inv.done 37 _ 78 rfl rfl rfl
  have q79 : a'.tmps.getD 79 undef = Value.bool true := inv.done 38 _ 79 rfl rfl rfl
  have q80 : a'.tmps.getD 80 undef = Value.int IntKind.i64 10 := inv.done 39 _ 80 rfl rfl rfl
  have q81 : a'.tmps.getD 81 undef = Value.bool true := inv.done 40 _ 81 rfl rfl rfl
  have q82 : a'.tmps.getD 82 undef = Value.bool true := inv.done 41 _ 82 rfl rfl rfl
  have q83 : a'.tmps.getD 83 undef = Value.bool true := inv.done 42 _ 83 rfl rfl rfl
  have q84 : a'.tmps.getD 84 undef = Value.agg #[Value.int IntKind.i64 3, Value.int IntKind.i64 1, Value.int IntKind.u64 7, Value.int IntKind.u64 9] := inv.done 43 _ 84 rfl rfl rfl
  have q85 : a'.tmps.getD 85 undef = Value.agg #[Value.int IntKind.i64 3, Value.int IntKind.i64 1, Value.int IntKind.u64 7, Value.int IntKind.u64 9] := inv.done 44 _ 85 rfl rfl rfl
  have q86 : a'.tmps.getD 86 undef = Value.agg #[Value.int IntKind.i64 3, Value.int IntKind.i64 1, Value.int IntKind.u64 7, Value.int IntKind.u64 9] := inv.done 45 _ 86 rfl rfl rfl
  have q87 : a'.tmps.getD 87 undef = Value.bool true := inv.done 46 _ 87 rfl rfl rfl
  have q88 : a'.tmps.getD 88 undef = Value.bool true := inv.done 47 _ 88 rfl rfl rfl
  have q89 : a'.tmps.getD 89 undef = Value.bool true := inv.done 48 _ 89 rfl rfl rfl
  have q90 : a'.tmps.getD 90 undef = Value.agg #[Value.int IntKind.i64 3, Value.int IntKind.i64 1, Value.int IntKind.u64 7, Value.int IntKind.u64 9] := inv.done 49 _ 90 rfl rfl rfl
  have q91 : a'.tmps.getD 91 undef = Value.agg #[Value.int IntKind.i64 1, Value.int IntKind.i64 1, Value.int IntKind.u64 0, Value.int IntKind.u64 0] := inv.done 50 _ 91 rfl rfl rfl
  have q92 : a'.tmps.getD 92 undef = Value.agg #[Value.int IntKind.i64 1, Value.int IntKind.i64 1, Value.int IntKind.u64 0, Value.int IntKind.u64 0] := inv.done 51 _ 92 rfl rfl rfl
  have q93 : a'.tmps.getD 93 undef = Value.bool true := inv.done 52 _ 93 rfl rfl rfl
  have q94 : a'.tmps.getD 94 undef = Value.bool true := inv.done 53 _ 94 rfl rfl rfl
  have q0 : a'.tmps.getD 0 undef = Value.bool true := inv.done 54 _ 0 rfl rfl rfl
  clear inv
  simp only [List.filterMap_cons, List.filterMap_nil, Par.putAll, Act.put, List.setIfInBounds_toArray, List.set_cons_succ, List.set_cons_zero, q41, q42, q43, q44, q45, q46, q47, q48, q49, q50, q51, q52, q53, q54, q55, q56, q57, q58, q59, q60, q61, q62, q63, q64, q65, q66, q67, q68, q69, q70, q71, q72, q73, q74, q75, q76, q77, q78, q79, q80, q81, q82, q83, q84, q85, q86, q87, q88, q89, q90, q91, q92, q93, q94, q0]
  clear q41 q42 q43 q44 q45 q46 q47 q48 q49 q50 q51 q52 q53 q54 q55 q56 q57 q58 q59 q60 q61 q62 q63 q64 q65 q66 q67 q68 q69 q70 q71 q72 q73 q74 q75 q76 q77 q78 q79 q80 q81 q82 q83 q84 q85 q86 q87 q88 q89 q90 q91 q92 q93 q94 q0
  clear a'
  go_wp2_with fail
  go_ret
  exact ⟨rfl, hE7.trans hX⟩
end Go.Proofs.Ytahhafcbnkidnaa
