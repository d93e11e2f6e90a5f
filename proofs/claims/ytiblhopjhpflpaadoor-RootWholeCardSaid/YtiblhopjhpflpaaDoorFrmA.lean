/- Package frame: a frame's bytes. -/
import Derived.Test.YtiblhopjhpflpaaDoorSumC
import Derived.Test.YtiblhopjhpflpaaDoorParB
import Derived.Test.YtiblhopjhpflpaaDoorFrmM
set_option maxRecDepth 100000
namespace Go.Proofs.YtiblhopjhpflpaaDoor
open Go.RowKit Go.Tum Go.Tum.Crc

abbrev fv (x : Fr) (v : Value) : Value := .agg #[.int .u8 (x.kind.toNat : Int), v]

set_option maxRecDepth 100000 in
theorem nb_any (n : Nat) (h : n ≤ 400) (w : World) :
    Calls Tryd.prog 66 #[.int .u16 (n : Int), .int .i64 2] w fun e w' => ∃ r, e = .returned r ∧ Own w' w.heap.size 5 r [UInt8.ofNat (n % 256), UInt8.ofNat (n / 256 % 256)] ∧ Ext w w' := by
  go_enter Tryd.func66, Tryd.ntmps66
  have hmk : ∀ w, (Instr.makeSlice 35 (.int .i64 2) (.int .i64 2)).run Tryd.prog w = .ok (.slice (some ⟨w.heap.size, 0, none⟩) 2 2) (w.alloc (.cells #[.int .u8 0, .int .u8 0] 5)) := fun _ => by kernel_rfl
  go_wp2
  refine wp_loop_rounds 3 ?_
  rw [rounds_succ]
  go_wp2
  rw [rounds_succ]
  go_wp2
  rw [rounds_succ]
  go_wp2
  go_ret
  refine ⟨_, rfl, own_lit _ _ _ _ _ ?_ _ rfl (Nat.le_refl _) (by simp [maxLen]), Ext.alloc _ _⟩
  have e0 : ((n : Int) % 256) = ((UInt8.ofNat (n % 256)).toNat : Int) := by simp
  have e1 : ((n : Int) / 256) = ((UInt8.ofNat (n / 256 % 256)).toNat : Int) := by simp; omega
  rw [e0, e1]
  rfl

def fbytesR (x : Fr) : List UInt8 × Int := if 400 < x.body.length then ([], 4) else (fbytes x, 0)

set_option maxRecDepth 100000 in
theorem fbytes_any (x : Fr) (v : Value) (w : World) (hb : Byt w v x.body) :
    Calls Tryd.prog 45 #[fv x v] w fun e w' => ∃ r, e = .returned (.tuple #[r, .int .i64 (fbytesR x).2]) ∧ Own w' w.heap.size 5 r (fbytesR x).1 ∧ Ext w w' := by
  obtain ⟨ao, cap, rfl, hle, hm, hnn, hcell⟩ := hb.open
  clear hcell hnn
  have HB := hid hb
  clear hb
  by_cases h4 : 400 < x.body.length
  · have hdec : decide (400 < (x.body.length : Int)) = true := by simp; omega
    go_enter Tryd.func45, Tryd.ntmps45
    go_wp2
    go_ret2
    unfold fbytesR
    rw [if_pos h4]
    exact ⟨.slice none 0 0, rfl, Own.nil _ _ _, Ext.alloc _ _⟩
  · have hdec : decide (400 < (x.body.length : Int)) = false := by simp; omega
    go_enter Tryd.func45, Tryd.ntmps45
    go_wp2_with fail
    have c0 : (w.alloc (.cells #[.int .u8 (x.kind.toNat : Int), .slice ao x.body.length cap] 87)).cell? ⟨w.heap.size, 0, none⟩ = some (.int .u8 (x.kind.toNat : Int)) := by rw [cell_of_row _ _ _ _ _ _ (heap_alloc_new w _)]; rfl
    have c1 : (w.alloc (.cells #[.int .u8 (x.kind.toNat : Int), .slice ao x.body.length cap] 87)).cell? ⟨w.heap.size, 1, none⟩ = some (.slice ao x.body.length cap) := by rw [cell_of_row _ _ _ _ _ _ (heap_alloc_new w _)]; rfl
    have hE1 := Ext.alloc w (.cells #[.int .u8 (x.kind.toNat : Int), .slice ao x.body.length cap] 87)
    have hsz : w.heap.size ≤ (w.alloc (.cells #[.int .u8 (x.kind.toNat : Int), .slice ao x.body.length cap] 87)).heap.size := by simp
    generalize w.alloc (.cells #[.int .u8 (x.kind.toNat : Int), .slice ao x.body.length cap] 87) = W at *
    have HE := hid hE1
    have HSZ := hid hsz
    have C0 := hid c0
    have C1 := hid c1
    clear hE1 hsz c0 c1
    have hn : IntKind.u16.wrap (x.body.length : Int) = (x.body.length : Int) := IntWalk.u16_in _ (by omega)
    refine ParB.wp_region_par (l := [_, _, _, _, _, _, _, _, _, _]) rfl Ext (ParB.XI 8 (World.heap W).size) (ParB.VLB [ParB.EQ (Value.pointer (some ⟨w.heap.size, 0, none⟩)), ParB.EQ (Value.int IntKind.u8 (x.kind.toNat : Int)), (fun L v w' => L 8 = true ∨ Own w' W.heap.size 5 v [x.kind]), ParB.EQ (Value.pointer (some ⟨w.heap.size, 1, none⟩)), ParB.EQ (Value.slice ao x.body.length cap), ParB.EQ (Value.int IntKind.i64 (x.body.length : Int)), ParB.EQ (Value.int IntKind.u16 (x.body.length : Int)), (fun L v w' => L 8 = true ∨ Byt w' v [UInt8.ofNat (x.body.length % 256), UInt8.ofNat (x.body.length / 256 % 256)]), (fun L v w' => L 8 = true ∧ Own w' W.heap.size 5 v (hd x)), (fun L v w' => L 8 = true ∧ Own w' W.heap.size 5 v (hd x))]) (by kernel_rfl) (ParB.XI_refl _ _) ParB.XI_trans (Ext.draw _) (ParB.stab_mk 7 (by kernel_rfl) ?_ ?_) ?_ ?_
    · simp only [List.forall_mem_cons, List.not_mem_nil, false_implies, implies_true, and_true]
      refine ⟨fun _ _ _ _ _ _ h => h, fun _ _ _ _ _ _ h => h, fun i L v a b k hh => hh.imp (fun e => by simp [ParB.upd, e]) (fun q => q.ext k), fun _ _ _ _ _ _ h => h, fun _ _ _ _ _ _ h => h, fun _ _ _ _ _ _ h => h, fun _ _ _ _ _ _ h => h, fun i L v a b k hh => hh.imp (fun e => by simp [ParB.upd, e]) (fun q => q.ext k), fun i L v a b k hh => ⟨by simp [ParB.upd, hh.1], hh.2.ext k⟩, fun i L v a b k hh => ⟨by simp [ParB.upd, hh.1], hh.2.ext k⟩⟩
    · simp only [List.set_cons_succ, List.set_cons_zero, List.forall_mem_cons, List.not_mem_nil, false_implies, implies_true, and_true, true_and]
      refine ⟨fun _ _ _ _ _ _ h => h, fun _ _ _ _ _ _ h => h, fun L v a b hL k hh => .inl (by simp [ParB.upd]), fun _ _ _ _ _ _ h => h, fun _ _ _ _ _ _ h => h, fun _ _ _ _ _ _ h => h, fun _ _ _ _ _ _ h => h, fun L v a b hL k hh => .inl (by simp [ParB.upd]), fun L v a b hL k hh => absurd hh.1 (by simp [hL])⟩
    · refine ⟨⟨fun _ _ _ => trivial, fun L ρ w' hX hL hG hk => ?_⟩, ?_⟩
      · obtain ⟨k0, -⟩ := hk
        have e0 : ρ (.tmp 1) = Value.pointer (some ⟨w.heap.size, 0, none⟩) := k0
        clear k0
        refine Par.val_k fun K hK => ?_
        unfold Par.val
        (go_simp; exact hK _ _ ⟨ParB.XI_refl _ _ 0 _, rfl⟩)
      refine ⟨⟨fun _ _ _ => trivial, fun L ρ w' hX hL hG hk => ?_⟩, ?_⟩
      · obtain ⟨k0, -⟩ := hk
        have e0 : ρ (.tmp 9) = Value.pointer (some ⟨w.heap.size, 0, none⟩) := k0
        clear k0
        refine Par.val_k fun K hK => ?_
        unfold Par.val
        (have c := hX.cell C0.out; go_simp; exact hK _ _ ⟨ParB.XI_refl _ _ 1 _, rfl⟩)
      refine ⟨⟨fun _ _ _ => trivial, fun L ρ w' hX hL hG hk => ?_⟩, ?_⟩
      · obtain ⟨k0, -⟩ := hk
        have e0 : ρ (.tmp 10) = Value.int IntKind.u8 (x.kind.toNat : Int) := k0
        clear k0
        refine Par.val_k fun K hK => ?_
        unfold Par.val
        (go_simp; exact hK _ _ ⟨ParB.XI_other (i0 := 8) (i := 2) (by decide) (Ext.alloc _ _), .inr (own_lit w' _ _ [x.kind] _ rfl 1 rfl hX.size (by simp [maxLen]))⟩)
      refine ⟨⟨fun _ _ _ => trivial, fun L ρ w' hX hL hG hk => ?_⟩, ?_⟩
      · obtain ⟨k0, -⟩ := hk
        have e0 : ρ (.tmp 1) = Value.pointer (some ⟨w.heap.size, 0, none⟩) := k0
        clear k0
        refine Par.val_k fun K hK => ?_
        unfold Par.val
        (go_simp; exact hK _ _ ⟨ParB.XI_refl _ _ 3 _, rfl⟩)
      refine ⟨⟨fun _ _ _ => trivial, fun L ρ w' hX hL hG hk => ?_⟩, ?_⟩
      · obtain ⟨k0, -⟩ := hk
        have e0 : ρ (.tmp 12) = Value.pointer (some ⟨w.heap.size, 1, none⟩) := k0
        clear k0
        refine Par.val_k fun K hK => ?_
        unfold Par.val
        (have c := hX.cell C1.out; go_simp; exact hK _ _ ⟨ParB.XI_refl _ _ 4 _, rfl⟩)
      refine ⟨⟨fun _ _ _ => trivial, fun L ρ w' hX hL hG hk => ?_⟩, ?_⟩
      · obtain ⟨k0, -⟩ := hk
        have e0 : ρ (.tmp 13) = Value.slice ao x.body.length cap := k0
        clear k0
        refine Par.val_k fun K hK => ?_
        unfold Par.val
        (go_simp; exact hK _ _ ⟨ParB.XI_refl _ _ 5 _, rfl⟩)
      refine ⟨⟨fun _ _ _ => trivial, fun L ρ w' hX hL hG hk => ?_⟩, ?_⟩
      · obtain ⟨k0, -⟩ := hk
        have e0 : ρ (.tmp 14) = Value.int IntKind.i64 (x.body.length : Int) := k0
        clear k0
        refine Par.val_k fun K hK => ?_
        unfold Par.val
        (go_simp; exact hK _ _ ⟨ParB.XI_refl _ _ 6 _, rfl⟩)
      refine ⟨⟨fun _ _ _ => trivial, fun L ρ w' hX hL hG hk => ?_⟩, ?_⟩
      · obtain ⟨k0, k1, k2, -⟩ := hk
        have e0 := k0
        have e1 : ρ (.tmp 15) = Value.int IntKind.u16 (x.body.length : Int) := k1
        have e2 : ρ (Operand.const (Value.int IntKind.i64 2)) = (Value.int IntKind.i64 2) := k2
        clear k0 k1 k2
        refine Par.val_k fun K hK => ?_
        unfold Par.val
        refine Par.val_call Tryd.func66 (by kernel_rfl) rfl e0 ?_
        simp only [List.map_toArray, List.map_cons, List.map_nil, e1, e2]
        refine (nb_any x.body.length (by omega) _).mono ?_
        rintro e w2 ⟨r, rfl, hr, hx2⟩
        exact ⟨_, rfl, hK _ _ ⟨ParB.XI_other (i0 := 8) (i := 7) (by decide) (hx2), .inr hr.byt⟩⟩
      refine ⟨⟨fun _ _ _ => trivial, fun L ρ w' hX hL hG hk => ?_⟩, ?_⟩
      · obtain ⟨k0, k1, -⟩ := hk
        have e0 : (fun L v w' => L 8 = true ∨ Own w' W.heap.size 5 v [x.kind]) L (ρ (.tmp 11)) w' := k0
        have e1 : (fun L v w' => L 8 = true ∨ Byt w' v [UInt8.ofNat (x.body.length % 256), UInt8.ofNat (x.body.length / 256 % 256)]) L (ρ (.tmp 16)) w' := k1
        clear k0 k1
        refine Par.val_k fun K hK => ?_
        unfold Par.val
        (have ho := e0.resolve_left (by simp [hL]); have hby := e1.resolve_left (by simp [hL]); obtain ⟨ao2, cap2, w2, hr, ho2, hg2, hb2⟩ := run_append_byt (P := Tryd.prog) W.heap.size 35 35 5 Tryd.underlying35 info5 ho hby (by simp) hX.size; refine Par.val_append hr (hK _ _ ⟨ParB.XI_same hb2, by simp [ParB.upd], ho2⟩))
      refine ⟨⟨fun _ _ _ => trivial, fun L ρ w' hX hL hG hk => ?_⟩, ?_⟩
      · obtain ⟨k0, -⟩ := hk
        have e0 : (fun L v w' => L 8 = true ∧ Own w' W.heap.size 5 v (hd x)) L (ρ (.tmp 17)) w' := k0
        clear k0
        refine Par.val_k fun K hK => ?_
        unfold Par.val
        (go_simp; exact hK _ _ ⟨ParB.XI_refl _ _ 9 _, by simp [ParB.upd, e0.1], e0.2⟩)
      trivial
    intro a' w' inv
    have hX := inv.ext
    have q9 : a'.tmps.getD 9 undef = Value.pointer (some ⟨w.heap.size, 0, none⟩) := inv.done 0 _ 9 rfl rfl rfl
    have q10 : a'.tmps.getD 10 undef = Value.int IntKind.u8 (x.kind.toNat : Int) := inv.done 1 _ 10 rfl rfl rfl
    have q11 : (fun L v w' => L 8 = true ∨ Own w' W.heap.size 5 v [x.kind]) (ParB.Lof (Array.replicate 10 true)) (a'.tmps.getD 11 undef) w' := inv.done 2 _ 11 rfl rfl rfl
    have q12 : a'.tmps.getD 12 undef = Value.pointer (some ⟨w.heap.size, 1, none⟩) := inv.done 3 _ 12 rfl rfl rfl
    have q13 : a'.tmps.getD 13 undef = Value.slice ao x.body.length cap := inv.done 4 _ 13 rfl rfl rfl
    have q14 : a'.tmps.getD 14 undef = Value.int IntKind.i64 (x.body.length : Int) := inv.done 5 _ 14 rfl rfl rfl
    have q15 : a'.tmps.getD 15 undef = Value.int IntKind.u16 (x.body.length : Int) := inv.done 6 _ 15 rfl rfl rfl
    have q16 : (fun L v w' => L 8 = true ∨ Byt w' v [UInt8.ofNat (x.body.length % 256), UInt8.ofNat (x.body.length / 256 % 256)]) (ParB.Lof (Array.replicate 10 true)) (a'.tmps.getD 16 undef) w' := inv.done 7 _ 16 rfl rfl rfl
    have q17 : (fun L v w' => L 8 = true ∧ Own w' W.heap.size 5 v (hd x)) (ParB.Lof (Array.replicate 10 true)) (a'.tmps.getD 17 undef) w' := inv.done 8 _ 17 rfl rfl rfl
    have q4 : (fun L v w' => L 8 = true ∧ Own w' W.heap.size 5 v (hd x)) (ParB.Lof (Array.replicate 10 true)) (a'.tmps.getD 4 undef) w' := inv.done 9 _ 4 rfl rfl rfl
    clear inv
    simp only [List.filterMap_cons, List.filterMap_nil, Par.putAll, Act.put, List.setIfInBounds_toArray, List.set_cons_succ, List.set_cons_zero, q9, q10, q12, q13, q14, q15]
    clear q9 q10 q12 q13 q14 q15
    generalize a'.tmps.getD 11 undef = u11 at *
    generalize a'.tmps.getD 16 undef = u16 at *
    generalize a'.tmps.getD 17 undef = u17 at *
    generalize a'.tmps.getD 4 undef = u4 at *
    clear a'
    have HO := hid q4.2
    have hX1 := hX
    clear q11 q16 hX q17 q4
    obtain ⟨W2, rfl⟩ : ∃ W2 : World, W2 = w' := ⟨_, rfl⟩
    go_wp2_with fail
    refine ParB.wp_region_par (l := [_, _, _, _, _, _, _, _]) rfl Ext (ParB.XI 5 (World.heap W2).size) (ParB.VLB [ParB.EQ (u4), (fun L v w' => L 5 = true ∨ Own w' W2.heap.size 5 v (put (hd x))), ParB.EQ (Value.pointer (some ⟨w.heap.size, 1, none⟩)), ParB.EQ (Value.slice ao x.body.length cap), (fun L v w' => L 5 = true ∨ Byt w' v (put x.body)), (fun L v w' => L 5 = true ∧ Own w' W2.heap.size 5 v (fbytes x)), (fun L v w' => L 5 = true ∧ Own w' W2.heap.size 5 v (fbytes x)), ParB.EQ (Value.int IntKind.i64 0)]) (by kernel_rfl) (ParB.XI_refl _ _) ParB.XI_trans (Ext.draw _) (ParB.stab_mk 4 (by kernel_rfl) ?_ ?_) ?_ ?_
    · simp only [List.forall_mem_cons, List.not_mem_nil, false_implies, implies_true, and_true]
      refine ⟨fun _ _ _ _ _ _ h => h, fun i L v a b k hh => hh.imp (fun e => by simp [ParB.upd, e]) (fun q => q.ext k), fun _ _ _ _ _ _ h => h, fun _ _ _ _ _ _ h => h, fun i L v a b k hh => hh.imp (fun e => by simp [ParB.upd, e]) (fun q => q.ext k), fun i L v a b k hh => ⟨by simp [ParB.upd, hh.1], hh.2.ext k⟩, fun i L v a b k hh => ⟨by simp [ParB.upd, hh.1], hh.2.ext k⟩, fun _ _ _ _ _ _ h => h⟩
    · simp only [List.set_cons_succ, List.set_cons_zero, List.forall_mem_cons, List.not_mem_nil, false_implies, implies_true, and_true, true_and]
      refine ⟨fun _ _ _ _ _ _ h => h, fun L v a b hL k hh => .inl (by simp [ParB.upd]), fun _ _ _ _ _ _ h => h, fun _ _ _ _ _ _ h => h, fun L v a b hL k hh => .inl (by simp [ParB.upd]), fun L v a b hL k hh => absurd hh.1 (by simp [hL]), fun _ _ _ _ _ _ h => h⟩
    · refine ⟨⟨fun _ _ _ => trivial, fun L ρ w' hX hL hG hk => ?_⟩, ?_⟩
      · obtain ⟨k0, -⟩ := hk
        have e0 : ρ (.tmp 4) = u4 := k0
        clear k0
        refine Par.val_k fun K hK => ?_
        unfold Par.val
        (go_simp; exact hK _ _ ⟨ParB.XI_refl _ _ 0 _, rfl⟩)
      refine ⟨⟨fun _ _ _ => trivial, fun L ρ w' hX hL hG hk => ?_⟩, ?_⟩
      · obtain ⟨k0, k1, -⟩ := hk
        have e0 := k0
        have e1 : ρ (.tmp 18) = u4 := k1
        clear k0 k1
        refine Par.val_k fun K hK => ?_
        unfold Par.val
        refine Par.val_call Tryd.func67 (by kernel_rfl) rfl e0 ?_
        simp only [List.map_toArray, List.map_cons, List.map_nil, e1]
        refine (put_any _ _ _ (HO.out.ext hX).byt (by simp [hd])).mono ?_
        rintro e w2 ⟨r, rfl, hr, hx2⟩
        exact ⟨_, rfl, hK _ _ ⟨ParB.XI_other (i0 := 5) (i := 1) (by decide) (hx2), .inr (hr.mono hX.size)⟩⟩
      refine ⟨⟨fun _ _ _ => trivial, fun L ρ w' hX hL hG hk => ?_⟩, ?_⟩
      · obtain ⟨k0, -⟩ := hk
        have e0 : ρ (.tmp 1) = Value.pointer (some ⟨w.heap.size, 0, none⟩) := k0
        clear k0
        refine Par.val_k fun K hK => ?_
        unfold Par.val
        (go_simp; exact hK _ _ ⟨ParB.XI_refl _ _ 2 _, rfl⟩)
      refine ⟨⟨fun _ _ _ => trivial, fun L ρ w' hX hL hG hk => ?_⟩, ?_⟩
      · obtain ⟨k0, -⟩ := hk
        have e0 : ρ (.tmp 20) = Value.pointer (some ⟨w.heap.size, 1, none⟩) := k0
        clear k0
        refine Par.val_k fun K hK => ?_
        unfold Par.val
        (have c := hX.cell (hX1.cell C1.out); go_simp; exact hK _ _ ⟨ParB.XI_refl _ _ 3 _, rfl⟩)
      refine ⟨⟨fun _ _ _ => trivial, fun L ρ w' hX hL hG hk => ?_⟩, ?_⟩
      · obtain ⟨k0, k1, -⟩ := hk
        have e0 := k0
        have e1 : ρ (.tmp 21) = Value.slice ao x.body.length cap := k1
        clear k0 k1
        refine Par.val_k fun K hK => ?_
        unfold Par.val
        refine Par.val_call Tryd.func67 (by kernel_rfl) rfl e0 ?_
        simp only [List.map_toArray, List.map_cons, List.map_nil, e1]
        refine (put_any _ x.body _ (HB.out.ext (HE.out.trans (hX1.trans hX))) (by omega)).mono ?_
        rintro e w2 ⟨r, rfl, hr, hx2⟩
        exact ⟨_, rfl, hK _ _ ⟨ParB.XI_other (i0 := 5) (i := 4) (by decide) (hx2), .inr hr.byt⟩⟩
      refine ⟨⟨fun _ _ _ => trivial, fun L ρ w' hX hL hG hk => ?_⟩, ?_⟩
      · obtain ⟨k0, k1, -⟩ := hk
        have e0 : (fun L v w' => L 5 = true ∨ Own w' W2.heap.size 5 v (put (hd x))) L (ρ (.tmp 19)) w' := k0
        have e1 : (fun L v w' => L 5 = true ∨ Byt w' v (put x.body)) L (ρ (.tmp 22)) w' := k1
        clear k0 k1
        refine Par.val_k fun K hK => ?_
        unfold Par.val
        (have ho := e0.resolve_left (by simp [hL]); have hby := e1.resolve_left (by simp [hL]); obtain ⟨ao2, cap2, w2, hr, ho2, hg2, hb2⟩ := run_append_byt (P := Tryd.prog) W2.heap.size 35 35 5 Tryd.underlying35 info5 ho hby (by simp [put_length, hd]; omega) hX.size; refine Par.val_append hr (hK _ _ ⟨ParB.XI_same hb2, by simp [ParB.upd], ho2⟩))
      refine ⟨⟨fun _ _ _ => trivial, fun L ρ w' hX hL hG hk => ?_⟩, ?_⟩
      · obtain ⟨k0, -⟩ := hk
        have e0 : (fun L v w' => L 5 = true ∧ Own w' W2.heap.size 5 v (fbytes x)) L (ρ (.tmp 23)) w' := k0
        clear k0
        refine Par.val_k fun K hK => ?_
        unfold Par.val
        (go_simp; exact hK _ _ ⟨ParB.XI_refl _ _ 6 _, by simp [ParB.upd, e0.1], e0.2⟩)
      refine ⟨⟨fun _ _ _ => trivial, fun L ρ w' hX hL hG hk => ?_⟩, ?_⟩
      · obtain ⟨k0, -⟩ := hk
        have e0 : ρ (Operand.const (Value.int IntKind.i64 0)) = (Value.int IntKind.i64 0) := k0
        clear k0
        refine Par.val_k fun K hK => ?_
        unfold Par.val
        (go_simp; exact hK _ _ ⟨ParB.XI_refl _ _ 7 _, rfl⟩)
      trivial
    intro a' w' inv
    have hX := inv.ext
    have q18 : a'.tmps.getD 18 undef = u4 := inv.done 0 _ 18 rfl rfl rfl
    have q19 : (fun L v w' => L 5 = true ∨ Own w' W2.heap.size 5 v (put (hd x))) (ParB.Lof (Array.replicate 8 true)) (a'.tmps.getD 19 undef) w' := inv.done 1 _ 19 rfl rfl rfl
    have q20 : a'.tmps.getD 20 undef = Value.pointer (some ⟨w.heap.size, 1, none⟩) := inv.done 2 _ 20 rfl rfl rfl
    have q21 : a'.tmps.getD 21 undef = Value.slice ao x.body.length cap := inv.done 3 _ 21 rfl rfl rfl
    have q22 : (fun L v w' => L 5 = true ∨ Byt w' v (put x.body)) (ParB.Lof (Array.replicate 8 true)) (a'.tmps.getD 22 undef) w' := inv.done 4 _ 22 rfl rfl rfl
    have q23 : (fun L v w' => L 5 = true ∧ Own w' W2.heap.size 5 v (fbytes x)) (ParB.Lof (Array.replicate 8 true)) (a'.tmps.getD 23 undef) w' := inv.done 5 _ 23 rfl rfl rfl
    have q2 : (fun L v w' => L 5 = true ∧ Own w' W2.heap.size 5 v (fbytes x)) (ParB.Lof (Array.replicate 8 true)) (a'.tmps.getD 2 undef) w' := inv.done 6 _ 2 rfl rfl rfl
    have q3 : a'.tmps.getD 3 undef = Value.int IntKind.i64 0 := inv.done 7 _ 3 rfl rfl rfl
    clear inv
    simp only [List.filterMap_cons, List.filterMap_nil, Par.putAll, Act.put, List.setIfInBounds_toArray, List.set_cons_succ, List.set_cons_zero, q18, q20, q21, q3]
    clear q18 q20 q21 q3
    generalize a'.tmps.getD 19 undef = u19 at *
    generalize a'.tmps.getD 22 undef = u22 at *
    generalize a'.tmps.getD 23 undef = u23 at *
    generalize a'.tmps.getD 2 undef = u2 at *
    clear a'
    go_wp2
    go_ret2
    unfold fbytesR
    rw [if_neg h4]
    exact ⟨_, rfl, q2.2.mono (Nat.le_trans HE.out.size hX1.size), HE.out.trans (hX1.trans hX)⟩
end Go.Proofs.YtiblhopjhpflpaaDoor
