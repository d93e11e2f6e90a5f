/- Rows of frames: a value and a list of bytes each.
Package frame: a frame's bytes.
Package frame: Read. -/
import Derived.Test.YtijpokajhjhllaaGreatDoorSumM
import Derived.Test.YtijpokajhjhllaaGreatDoorParB
import Derived.Test.YtijpokajhjhllaaGreatDoorFrmM
import Derived.Handy
import Derived.Lib.SmallJoins
import Derived.Test.YtijpokajhjhllaaGreatDoorOpen
set_option maxRecDepth 100000
namespace Go.Proofs.YtijpokajhjhllaaGreatDoor
open Go.RowKit Go.Tum Go.Tum.Crc

abbrev fv (x : Fr) (v : Value) : Value := .agg #[.int .u8 (x.kind.toNat : Int), v]

set_option maxRecDepth 100000 in
theorem nb_any (n : Nat) (h : n ≤ 400) (w : World) :
    Calls Tryz.prog 94 #[.int .u16 (n : Int), .int .i64 2] w fun e w' => ∃ r, e = .returned r ∧ Own w' w.heap.size 5 r [UInt8.ofNat (n % 256), UInt8.ofNat (n / 256 % 256)] ∧ Ext w w' := by
  go_enter Tryz.func94, Tryz.ntmps94
  have hmk : ∀ w, (Instr.makeSlice 37 (.int .i64 2) (.int .i64 2)).run Tryz.prog w = .ok (.slice (some ⟨w.heap.size, 0, none⟩) 2 2) (w.alloc (.cells #[.int .u8 0, .int .u8 0] 5)) := fun _ => by kernel_rfl
  go_wp2
  refine wp_loop_rounds 3 ?_
  rw [rounds_succ]
  go_wp2
  rw [rounds_succ]
  go_wp2
  rw [rounds_succ]
  go_wp2
  go_ret
  refine ⟨_, rfl, own_lit _ _ _ _ _ ?_ _ rfl (Nat.le_refl _) (by simp [maxLen]), Ext.alloc _ _⟩
  have e0 : ((n : Int) % 256) = ((UInt8.ofNat (n % 256)).toNat : Int) := by simp
  have e1 : ((n : Int) / 256) = ((UInt8.ofNat (n / 256 % 256)).toNat : Int) := by simp; omega
  rw [e0, e1]
  rfl

def fbytesR (x : Fr) : List UInt8 × Int := if 400 < x.body.length then ([], 4) else (fbytes x, 0)

set_option maxRecDepth 100000 in
theorem fbytes_any (x : Fr) (v : Value) (w : World) (hb : Byt w v x.body) :
    Calls Tryz.prog 76 #[fv x v] w fun e w' => ∃ r, e = .returned (.tuple #[r, .int .i64 (fbytesR x).2]) ∧ Own w' w.heap.size 5 r (fbytesR x).1 ∧ Ext w w' := by
  obtain ⟨ao, cap, rfl, hle, hm, hnn, hcell⟩ := hb.open
  clear hcell hnn
  have HB := hid hb
  clear hb
  by_cases h4 : 400 < x.body.length
  · have hdec : decide (400 < (x.body.length : Int)) = true := by simp; omega
    go_enter Tryz.func76, Tryz.ntmps76
    go_wp2
    go_ret2
    unfold fbytesR
    rw [if_pos h4]
    exact ⟨.slice none 0 0, rfl, Own.nil _ _ _, Ext.alloc _ _⟩
  · have hdec : decide (400 < (x.body.length : Int)) = false := by simp; omega
    go_enter Tryz.func76, Tryz.ntmps76
    go_wp2_with fail
    have c0 : (w.alloc (.cells #[.int .u8 (x.kind.toNat : Int), .slice ao x.body.length cap] 114)).cell? ⟨w.heap.size, 0, none⟩ = some (.int .u8 (x.kind.toNat : Int)) := by rw [cell_of_row _ _ _ _ _ _ (heap_alloc_new w _)]; rfl
    have c1 : (w.alloc (.cells #[.int .u8 (x.kind.toNat : Int), .slice ao x.body.length cap] 114)).cell? ⟨w.heap.size, 1, none⟩ = some (.slice ao x.body.length cap) := by rw [cell_of_row _ _ _ _ _ _ (heap_alloc_new w _)]; rfl
    have hE1 := Ext.alloc w (.cells #[.int .u8 (x.kind.toNat : Int), .slice ao x.body.length cap] 114)
    have hsz : w.heap.size ≤ (w.alloc (.cells #[.int .u8 (x.kind.toNat : Int), .slice ao x.body.length cap] 114)).heap.size := by simp
    generalize w.alloc (.cells #[.int .u8 (x.kind.toNat : Int), .slice ao x.body.length cap] 114) = W at *
    have HE := hid hE1
    have HSZ := hid hsz
    have C0 := hid c0
    have C1 := hid c1
    clear hE1 hsz c0 c1
    have hn : IntKind.u16.wrap (x.body.length : Int) = (x.body.length : Int) := IntWalk.u16_in _ (by omega)
    refine ParB.wp_region_par (l := [_, _, _, _, _, _, _, _, _, _]) rfl Ext (ParB.XI 8 (World.heap W).size) (ParB.VLB [ParB.EQ (Value.pointer (some ⟨w.heap.size, 0, none⟩)), ParB.EQ (Value.int IntKind.u8 (x.kind.toNat : Int)), (fun L v w' => L 8 = true ∨ Own w' W.heap.size 5 v [x.kind]), ParB.EQ (Value.pointer (some ⟨w.heap.size, 1, none⟩)), ParB.EQ (Value.slice ao x.body.length cap), ParB.EQ (Value.int IntKind.i64 (x.body.length : Int)), ParB.EQ (Value.int IntKind.u16 (x.body.length : Int)), (fun L v w' => L 8 = true ∨ Byt w' v [UInt8.ofNat (x.body.length % 256), UInt8.ofNat (x.body.length / 256 % 256)]), (fun L v w' => L 8 = true ∧ Own w' W.heap.size 5 v (hd x)), (fun L v w' => L 8 = true ∧ Own w' W.heap.size 5 v (hd x))]) (by kernel_rfl) (ParB.XI_refl _ _) ParB.XI_trans (Ext.draw _) (ParB.stab_mk 7 (by kernel_rfl) ?_ ?_) ?_ ?_
    · simp only [List.forall_mem_cons, List.not_mem_nil, false_implies, implies_true, and_true]
      refine ⟨fun _ _ _ _ _ _ h => h, fun _ _ _ _ _ _ h => h, fun i L v a b k hh => hh.imp (fun e => by simp [ParB.upd, e]) (fun q => q.ext k), fun _ _ _ _ _ _ h => h, fun _ _ _ _ _ _ h => h, fun _ _ _ _ _ _ h => h, fun _ _ _ _ _ _ h => h, fun i L v a b k hh => hh.imp (fun e => by simp [ParB.upd, e]) (fun q => q.ext k), fun i L v a b k hh => ⟨by simp [ParB.upd, hh.1], hh.2.ext k⟩, fun i L v a b k hh => ⟨by simp [ParB.upd, hh.1], hh.2.ext k⟩⟩
    · simp only [List.set_cons_succ, List.set_cons_zero, List.forall_mem_cons, List.not_mem_nil, false_implies, implies_true, and_true, true_and]
      refine ⟨fun _ _ _ _ _ _ h => h, fun _ _ _ _ _ _ h => h, fun L v a b hL k hh => .inl (by simp [ParB.upd]), fun _ _ _ _ _ _ h => h, fun _ _ _ _ _ _ h => h, fun _ _ _ _ _ _ h => h, fun _ _ _ _ _ _ h => h, fun L v a b hL k hh => .inl (by simp [ParB.upd]), fun L v a b hL k hh => absurd hh.1 (by simp [hL])⟩
    · refine ⟨⟨fun _ _ _ => trivial, fun L ρ w' hX hL hG hk => ?_⟩, ?_⟩
      · obtain ⟨k0, -⟩ := hk
        have e0 : ρ (.tmp 1) = Value.pointer (some ⟨w.heap.size, 0, none⟩) := k0
        clear k0
        refine Par.val_k fun K hK => ?_
        unfold Par.val
        (go_simp; exact hK _ _ ⟨ParB.XI_refl _ _ 0 _, rfl⟩)
      refine ⟨⟨fun _ _ _ => trivial, fun L ρ w' hX hL hG hk => ?_⟩, ?_⟩
      · obtain ⟨k0, -⟩ := hk
        have e0 : ρ (.tmp 9) = Value.pointer (some ⟨w.heap.size, 0, none⟩) := k0
        clear k0
        refine Par.val_k fun K hK => ?_
        unfold Par.val
        (have c := hX.cell C0.out; go_simp; exact hK _ _ ⟨ParB.XI_refl _ _ 1 _, rfl⟩)
      refine ⟨⟨fun _ _ _ => trivial, fun L ρ w' hX hL hG hk => ?_⟩, ?_⟩
      · obtain ⟨k0, -⟩ := hk
        have e0 : ρ (.tmp 10) = Value.int IntKind.u8 (x.kind.toNat : Int) := k0
        clear k0
        refine Par.val_k fun K hK => ?_
        unfold Par.val
        (go_simp; exact hK _ _ ⟨ParB.XI_other (i0 := 8) (i := 2) (by decide) (Ext.alloc _ _), .inr (own_lit w' _ _ [x.kind] _ rfl 1 rfl hX.size (by simp [maxLen]))⟩)
      refine ⟨⟨fun _ _ _ => trivial, fun L ρ w' hX hL hG hk => ?_⟩, ?_⟩
      · obtain ⟨k0, -⟩ := hk
        have e0 : ρ (.tmp 1) = Value.pointer (some ⟨w.heap.size, 0, none⟩) := k0
        clear k0
        refine Par.val_k fun K hK => ?_
        unfold Par.val
        (go_simp; exact hK _ _ ⟨ParB.XI_refl _ _ 3 _, rfl⟩)
      refine ⟨⟨fun _ _ _ => trivial, fun L ρ w' hX hL hG hk => ?_⟩, ?_⟩
      · obtain ⟨k0, -⟩ := hk
        have e0 : ρ (.tmp 12) = Value.pointer (some ⟨w.heap.size, 1, none⟩) := k0
        clear k0
        refine Par.val_k fun K hK => ?_
        unfold Par.val
        (have c := hX.cell C1.out; go_simp; exact hK _ _ ⟨ParB.XI_refl _ _ 4 _, rfl⟩)
      refine ⟨⟨fun _ _ _ => trivial, fun L ρ w' hX hL hG hk => ?_⟩, ?_⟩
      · obtain ⟨k0, -⟩ := hk
        have e0 : ρ (.tmp 13) = Value.slice ao x.body.length cap := k0
        clear k0
        refine Par.val_k fun K hK => ?_
        unfold Par.val
        (go_simp; exact hK _ _ ⟨ParB.XI_refl _ _ 5 _, rfl⟩)
      refine ⟨⟨fun _ _ _ => trivial, fun L ρ w' hX hL hG hk => ?_⟩, ?_⟩
      · obtain ⟨k0, -⟩ := hk
        have e0 : ρ (.tmp 14) = Value.int IntKind.i64 (x.body.length : Int) := k0
        clear k0
        refine Par.val_k fun K hK => ?_
        unfold Par.val
        (go_simp; exact hK _ _ ⟨ParB.XI_refl _ _ 6 _, rfl⟩)
      refine ⟨⟨fun _ _ _ => trivial, fun L ρ w' hX hL hG hk => ?_⟩, ?_⟩
      · obtain ⟨k0, k1, k2, -⟩ := hk
        have e0 := k0
        have e1 : ρ (.tmp 15) = Value.int IntKind.u16 (x.body.length : Int) := k1
        have e2 : ρ (Operand.const (Value.int IntKind.i64 2)) = (Value.int IntKind.i64 2) := k2
        clear k0 k1 k2
        refine Par.val_k fun K hK => ?_
        unfold Par.val
        refine Par.val_call Tryz.func94 (by kernel_rfl) rfl e0 ?_
        simp only [List.map_toArray, List.map_cons, List.map_nil, e1, e2]
        refine (nb_any x.body.length (by omega) _).mono ?_
        rintro e w2 ⟨r, rfl, hr, hx2⟩
        exact ⟨_, rfl, hK _ _ ⟨ParB.XI_other (i0 := 8) (i := 7) (by decide) (hx2), .inr hr.byt⟩⟩
      refine ⟨⟨fun _ _ _ => trivial, fun L ρ w' hX hL hG hk => ?_⟩, ?_⟩
      · obtain ⟨k0, k1, -⟩ := hk
        have e0 : (fun L v w' => L 8 = true ∨ Own w' W.heap.size 5 v [x.kind]) L (ρ (.tmp 11)) w' := k0
        have e1 : (fun L v w' => L 8 = true ∨ Byt w' v [UInt8.ofNat (x.body.length % 256), UInt8.ofNat (x.body.length / 256 % 256)]) L (ρ (.tmp 16)) w' := k1
        clear k0 k1
        refine Par.val_k fun K hK => ?_
        unfold Par.val
        (have ho := e0.resolve_left (by simp [hL]); have hby := e1.resolve_left (by simp [hL]); obtain ⟨ao2, cap2, w2, hr, ho2, hg2, hb2⟩ := run_append_byt (P := Tryz.prog) W.heap.size 37 37 5 Tryz.underlying37 info5 ho hby (by simp) hX.size; refine Par.val_append hr (hK _ _ ⟨ParB.XI_same hb2, by simp [ParB.upd], ho2⟩))
      refine ⟨⟨fun _ _ _ => trivial, fun L ρ w' hX hL hG hk => ?_⟩, ?_⟩
      · obtain ⟨k0, -⟩ := hk
        have e0 : (fun L v w' => L 8 = true ∧ Own w' W.heap.size 5 v (hd x)) L (ρ (.tmp 17)) w' := k0
        clear k0
        refine Par.val_k fun K hK => ?_
        unfold Par.val
        (go_simp; exact hK _ _ ⟨ParB.XI_refl _ _ 9 _, by simp [ParB.upd, e0.1], e0.2⟩)
      trivial
    intro a' w' inv
    have hX := inv.ext
    have q9 : a'.tmps.getD 9 undef = Value.pointer (some ⟨w.heap.size, 0, none⟩) := inv.done 0 _ 9 rfl rfl rfl
    have q10 : a'.tmps.getD 10 undef = Value.int IntKind.u8 (x.kind.toNat : Int) := inv.done 1 _ 10 rfl rfl rfl
    have q11 : (fun L v w' => L 8 = true ∨ Own w' W.heap.size 5 v [x.kind]) (ParB.Lof (Array.replicate 10 true)) (a'.tmps.getD 11 undef) w' := inv.done 2 _ 11 rfl rfl rfl
    have q12 : a'.tmps.getD 12 undef = Value.pointer (some ⟨w.heap.size, 1, none⟩) := inv.done 3 _ 12 rfl rfl rfl
    have q13 : a'.tmps.getD 13 undef = Value.slice ao x.body.length cap := inv.done 4 _ 13 rfl rfl rfl
    have q14 : a'.tmps.getD 14 undef = Value.int IntKind.i64 (x.body.length : Int) := inv.done 5 _ 14 rfl rfl rfl
    have q15 : a'.tmps.getD 15 undef = Value.int IntKind.u16 (x.body.length : Int) := inv.done 6 _ 15 rfl rfl rfl
    have q16 : (fun L v w' => L 8 = true ∨ Byt w' v [UInt8.ofNat (x.body.length % 256), UInt8.ofNat (x.body.length / 256 % 256)]) (ParB.Lof (Array.replicate 10 true)) (a'.tmps.getD 16 undef) w' := inv.done 7 _ 16 rfl rfl rfl
    have q17 : (fun L v w' => L 8 = true ∧ Own w' W.heap.size 5 v (hd x)) (ParB.Lof (Array.replicate 10 true)) (a'.tmps.getD 17 undef) w' := inv.done 8 _ 17 rfl rfl rfl
    have q4 : (fun L v w' => L 8 = true ∧ Own w' W.heap.size 5 v (hd x)) (ParB.Lof (Array.replicate 10 true)) (a'.tmps.getD 4 undef) w' := inv.done 9 _ 4 rfl rfl rfl
    clear inv
    simp only [List.filterMap_cons, List.filterMap_nil, Par.putAll, Act.put, List.setIfInBounds_toArray, List.set_cons_succ, List.set_cons_zero, q9, q10, q12, q13, q14, q15]
    clear q9 q10 q12 q13 q14 q15
    generalize a'.tmps.getD 11 undef = u11 at *
    generalize a'.tmps.getD 16 undef = u16 at *
    generalize a'.tmps.getD 17 undef = u17 at *
    generalize a'.tmps.getD 4 undef = u4 at *
    clear a'
    have HO := hid q4.2
    have hX1 := hX
    clear q11 q16 hX q17 q4
    obtain ⟨W2, rfl⟩ : ∃ W2 : World, W2 = w' := ⟨_, rfl⟩
    go_wp2_with fail
    refine ParB.wp_region_par (l := [_, _, _, _, _, _, _, _]) rfl Ext (ParB.XI 5 (World.heap W2).size) (ParB.VLB [ParB.EQ (u4), (fun L v w' => L 5 = true ∨ Own w' W2.heap.size 5 v (put (hd x))), ParB.EQ (Value.pointer (some ⟨w.heap.size, 1, none⟩)), ParB.EQ (Value.slice ao x.body.length cap), (fun L v w' => L 5 = true ∨ Byt w' v (put x.body)), (fun L v w' => L 5 = true ∧ Own w' W2.heap.size 5 v (fbytes x)), (fun L v w' => L 5 = true ∧ Own w' W2.heap.size 5 v (fbytes x)), ParB.EQ (Value.int IntKind.i64 0)]) (by kernel_rfl) (ParB.XI_refl _ _) ParB.XI_trans (Ext.draw _) (ParB.stab_mk 4 (by kernel_rfl) ?_ ?_) ?_ ?_
    · simp only [List.forall_mem_cons, List.not_mem_nil, false_implies, implies_true, and_true]
      refine ⟨fun _ _ _ _ _ _ h => h, fun i L v a b k hh => hh.imp (fun e => by simp [ParB.upd, e]) (fun q => q.ext k), fun _ _ _ _ _ _ h => h, fun _ _ _ _ _ _ h => h, fun i L v a b k hh => hh.imp (fun e => by simp [ParB.upd, e]) (fun q => q.ext k), fun i L v a b k hh => ⟨by simp [ParB.upd, hh.1], hh.2.ext k⟩, fun i L v a b k hh => ⟨by simp [ParB.upd, hh.1], hh.2.ext k⟩, fun _ _ _ _ _ _ h => h⟩
    · simp only [List.set_cons_succ, List.set_cons_zero, List.forall_mem_cons, List.not_mem_nil, false_implies, implies_true, and_true, true_and]
      refine ⟨fun _ _ _ _ _ _ h => h, fun L v a b hL k hh => .inl (by simp [ParB.upd]), fun _ _ _ _ _ _ h => h, fun _ _ _ _ _ _ h => h, fun L v a b hL k hh => .inl (by simp [ParB.upd]), fun L v a b hL k hh => absurd hh.1 (by simp [hL]), fun _ _ _ _ _ _ h => h⟩
    · refine ⟨⟨fun _ _ _ => trivial, fun L ρ w' hX hL hG hk => ?_⟩, ?_⟩
      · obtain ⟨k0, -⟩ := hk
        have e0 : ρ (.tmp 4) = u4 := k0
        clear k0
        refine Par.val_k fun K hK => ?_
        unfold Par.val
        (go_simp; exact hK _ _ ⟨ParB.XI_refl _ _ 0 _, rfl⟩)
      refine ⟨⟨fun _ _ _ => trivial, fun L ρ w' hX hL hG hk => ?_⟩, ?_⟩
      · obtain ⟨k0, k1, -⟩ := hk
        have e0 := k0
        have e1 : ρ (.tmp 18) = u4 := k1
        clear k0 k1
        refine Par.val_k fun K hK => ?_
        unfold Par.val
        refine Par.val_call Tryz.func95 (by kernel_rfl) rfl e0 ?_
        simp only [List.map_toArray, List.map_cons, List.map_nil, e1]
        refine (put_any _ _ _ (HO.out.ext hX).byt (by simp [hd])).mono ?_
        rintro e w2 ⟨r, rfl, hr, hx2⟩
        exact ⟨_, rfl, hK _ _ ⟨ParB.XI_other (i0 := 5) (i := 1) (by decide) (hx2), .inr (hr.mono hX.size)⟩⟩
      refine ⟨⟨fun _ _ _ => trivial, fun L ρ w' hX hL hG hk => ?_⟩, ?_⟩
      · obtain ⟨k0, -⟩ := hk
        have e0 : ρ (.tmp 1) = Value.pointer (some ⟨w.heap.size, 0, none⟩) := k0
        clear k0
        refine Par.val_k fun K hK => ?_
        unfold Par.val
        (go_simp; exact hK _ _ ⟨ParB.XI_refl _ _ 2 _, rfl⟩)
      refine ⟨⟨fun _ _ _ => trivial, fun L ρ w' hX hL hG hk => ?_⟩, ?_⟩
      · obtain ⟨k0, -⟩ := hk
        have e0 : ρ (.tmp 20) = Value.pointer (some ⟨w.heap.size, 1, none⟩) := k0
        clear k0
        refine Par.val_k fun K hK => ?_
        unfold Par.val
        (have c := hX.cell (hX1.cell C1.out); go_simp; exact hK _ _ ⟨ParB.XI_refl _ _ 3 _, rfl⟩)
      refine ⟨⟨fun _ _ _ => trivial, fun L ρ w' hX hL hG hk => ?_⟩, ?_⟩
      · obtain ⟨k0, k1, -⟩ := hk
        have e0 := k0
        have e1 : ρ (.tmp 21) = Value.slice ao x.body.length cap := k1
        clear k0 k1
        refine Par.val_k fun K hK => ?_
        unfold Par.val
        refine Par.val_call Tryz.func95 (by kernel_rfl) rfl e0 ?_
        simp only [List.map_toArray, List.map_cons, List.map_nil, e1]
        refine (put_any _ x.body _ (HB.out.ext (HE.out.trans (hX1.trans hX))) (by omega)).mono ?_
        rintro e w2 ⟨r, rfl, hr, hx2⟩
        exact ⟨_, rfl, hK _ _ ⟨ParB.XI_other (i0 := 5) (i := 4) (by decide) (hx2), .inr hr.byt⟩⟩
      refine ⟨⟨fun _ _ _ => trivial, fun L ρ w' hX hL hG hk => ?_⟩, ?_⟩
      · obtain ⟨k0, k1, -⟩ := hk
        have e0 : (fun L v w' => L 5 = true ∨ Own w' W2.heap.size 5 v (put (hd x))) L (ρ (.tmp 19)) w' := k0
        have e1 : (fun L v w' => L 5 = true ∨ Byt w' v (put x.body)) L (ρ (.tmp 22)) w' := k1
        clear k0 k1
        refine Par.val_k fun K hK => ?_
        unfold Par.val
        (have ho := e0.resolve_left (by simp [hL]); have hby := e1.resolve_left (by simp [hL]); obtain ⟨ao2, cap2, w2, hr, ho2, hg2, hb2⟩ := run_append_byt (P := Tryz.prog) W2.heap.size 37 37 5 Tryz.underlying37 info5 ho hby (by simp [put_length, hd]; omega) hX.size; refine Par.val_append hr (hK _ _ ⟨ParB.XI_same hb2, by simp [ParB.upd], ho2⟩))
      refine ⟨⟨fun _ _ _ => trivial, fun L ρ w' hX hL hG hk => ?_⟩, ?_⟩
      · obtain ⟨k0, -⟩ := hk
        have e0 : (fun L v w' => L 5 = true ∧ Own w' W2.heap.size 5 v (fbytes x)) L (ρ (.tmp 23)) w' := k0
        clear k0
        refine Par.val_k fun K hK => ?_
        unfold Par.val
        (go_simp; exact hK _ _ ⟨ParB.XI_refl _ _ 6 _, by simp [ParB.upd, e0.1], e0.2⟩)
      refine ⟨⟨fun _ _ _ => trivial, fun L ρ w' hX hL hG hk => ?_⟩, ?_⟩
      · obtain ⟨k0, -⟩ := hk
        have e0 : ρ (Operand.const (Value.int IntKind.i64 0)) = (Value.int IntKind.i64 0) := k0
        clear k0
        refine Par.val_k fun K hK => ?_
        unfold Par.val
        (go_simp; exact hK _ _ ⟨ParB.XI_refl _ _ 7 _, rfl⟩)
      trivial
    intro a' w' inv
    have hX := inv.ext
    have q18 : a'.tmps.getD 18 undef = u4 := inv.done 0 _ 18 rfl rfl rfl
    have q19 : (fun L v w' => L 5 = true ∨ Own w' W2.heap.size 5 v (put (hd x))) (ParB.Lof (Array.replicate 8 true)) (a'.tmps.getD 19 undef) w' := inv.done 1 _ 19 rfl rfl rfl
    have q20 : a'.tmps.getD 20 undef = Value.pointer (some ⟨w.heap.size, 1, none⟩) := inv.done 2 _ 20 rfl rfl rfl
    have q21 : a'.tmps.getD 21 undef = Value.slice ao x.body.length cap := inv.done 3 _ 21 rfl rfl rfl
    have q22 : (fun L v w' => L 5 = true ∨ Byt w' v (put x.body)) (ParB.Lof (Array.replicate 8 true)) (a'.tmps.getD 22 undef) w' := inv.done 4 _ 22 rfl rfl rfl
    have q23 : (fun L v w' => L 5 = true ∧ Own w' W2.heap.size 5 v (fbytes x)) (ParB.Lof (Array.replicate 8 true)) (a'.tmps.getD 23 undef) w' := inv.done 5 _ 23 rfl rfl rfl
    have q2 : (fun L v w' => L 5 = true ∧ Own w' W2.heap.size 5 v (fbytes x)) (ParB.Lof (Array.replicate 8 true)) (a'.tmps.getD 2 undef) w' := inv.done 6 _ 2 rfl rfl rfl
    have q3 : a'.tmps.getD 3 undef = Value.int IntKind.i64 0 := inv.done 7 _ 3 rfl rfl rfl
    clear inv
    simp only [List.filterMap_cons, List.filterMap_nil, Par.putAll, Act.put, List.setIfInBounds_toArray, List.set_cons_succ, List.set_cons_zero, q18, q20, q21, q3]
    clear q18 q20 q21 q3
    generalize a'.tmps.getD 19 undef = u19 at *
    generalize a'.tmps.getD 22 undef = u22 at *
    generalize a'.tmps.getD 23 undef = u23 at *
    generalize a'.tmps.getD 2 undef = u2 at *
    clear a'
    go_wp2
    go_ret2
    unfold fbytesR
    rw [if_neg h4]
    exact ⟨_, rfl, q2.2.mono (Nat.le_trans HE.out.size hX1.size), HE.out.trans (hX1.trans hX)⟩
end Go.Proofs.YtijpokajhjhllaaGreatDoor

set_option maxRecDepth 100000
namespace Go.Proofs.YtijpokajhjhllaaGreatDoor
open Go.RowKit Go.Tum Go.Tum.Crc

theorem i64_or_nat (a b : Nat) (ha : a < 9223372036854775808) (hb : b < 9223372036854775808) : bits .or .i64 (a : Int) (b : Int) = ((a ||| b : Nat) : Int) := by
  have hx : a ||| b < 2 ^ 63 := Nat.or_lt_two_pow (by omega) (by omega)
  show IntKind.i64.wrap ((BitVec.ofInt 64 (a : Int) ||| BitVec.ofInt 64 (b : Int)).toNat : Int) = _
  have e : ∀ a : Nat, a < 9223372036854775808 → (BitVec.ofInt 64 (a : Int)).toNat = a := fun a ha => by
    rw [BitVec.ofInt_natCast, BitVec.toNat_ofNat]; exact Nat.mod_eq_of_lt (by omega)
  rw [BitVec.toNat_or, e a ha, e b hb, IntKind.wrap_i64]
  omega
theorem or_two (a b : UInt8) : bits .or .i64 (bits .or .i64 0 (a.toNat : Int)) ((b.toNat : Int) * 256) = ((a.toNat + 256 * b.toNat : Nat) : Int) := by
  have ha := a.toNat_lt
  have hb := b.toNat_lt
  have e1 := i64_or_nat 0 a.toNat (by omega) (by omega)
  rw [Nat.zero_or] at e1
  have e2 : ((b.toNat : Int) * 256) = ((256 * b.toNat : Nat) : Int) := by omega
  rw [show ((0 : Int)) = ((0 : Nat) : Int) from rfl, e1, e2, i64_or_nat _ _ (by omega) (by omega), Nat.or_comm, nat_join 8 _ _ (by omega) ha, Nat.add_comm]

theorem ret_val {k : IntKind} {a b : Int} (h : a = b) : Ending.returned (.int k a) = .returned (.int k b) := by rw [h]

set_option maxRecDepth 100000 in
theorem number_any (v : Value) (a b : UInt8) (w : World) (hb : Byt w v [a, b]) :
    Calls Tryz.prog 103 #[v] w fun e w' => e = .returned (.int .i64 ((a.toNat + 256 * b.toNat : Nat) : Int)) ∧ w = w' := by
  obtain ⟨ao, cap, rfl, hle, hm, hnn, hcell⟩ := hb.open
  obtain ⟨p, rfl⟩ := hnn (by simp at hle; omega)
  have c0 : w.cell? p = some (.int .u8 (a.toNat : Int)) := hcell p rfl 0 (by simp)
  have c1 : w.cell? ⟨p.block, p.off + 1, none⟩ = some (.int .u8 (b.toNat : Int)) := hcell p rfl 1 (by simp)
  have ha := a.toNat_lt
  have hb' := b.toNat_lt
  clear hcell hnn hb
  go_enter Tryz.func103, Tryz.ntmps103
  go_wp2
  refine wp_loop_rounds 3 ?_
  rw [rounds_succ]
  go_wp2
  rw [rounds_succ]
  go_wp2
  rw [rounds_succ]
  go_wp2
  go_ret
  exact ⟨ret_val (or_two a b), rfl⟩

theorem cut_isPut {l : List UInt8} (h : isPut l = true) : Crc.cut l = l.take (l.length - 4) := by unfold Crc.cut; rw [if_pos h]
theorem cut_not {l : List UInt8} (h : isPut l = false) : Crc.cut l = [] := by unfold Crc.cut; rw [h]; rfl
theorem take3 (b : List UInt8) (h : 7 ≤ b.length) : (b.take 7).take ((b.take 7).length - 4) = [b.getD 0 0, b.getD 1 0, b.getD 2 0] := by
  match b, h with
  | x :: y :: z :: _ :: _ :: _ :: _ :: r, _ => simp

theorem blk2 {w : World} {b : Nat} {p q : Value} {ty : TypeId} (h : w.heap[b]? = some (.cells #[p, q] ty (0, 0))) :
    w.cell? ⟨b, 0, none⟩ = some p ∧ w.cell? ⟨b, 1, none⟩ = some q ∧ w.frozen? ⟨b, 0, none⟩ = false ∧ w.frozen? ⟨b, 1, none⟩ = false := by
  refine ⟨by rw [cell_of_row _ _ _ _ _ _ h]; rfl, by rw [cell_of_row _ _ _ _ _ _ h]; rfl, by simp [World.frozen?, h], by simp [World.frozen?, h]⟩
theorem own_setLow {w : World} {b e : Nat} {v : Value} {l : List UInt8} (h : Own w b e v l) (a : Addr) (u : Value) (ha : a.block < b) : Own (w.setCell a u) b e v l := by
  refine ⟨h.1, ?_⟩
  rcases h.2 with hn | ⟨g', cap', cur, hv, hb, hgg, rest⟩
  · exact .inl hn
  · exact .inr ⟨g', cap', cur, hv, hb, by rw [heap_setCell_other _ _ _ _ (by omega)]; exact hgg, rest⟩

theorem ret_fr {x : Value} {n m e : Int} (h : n = m) : Ending.returned (.tuple #[x, .int .i64 n, .int .i64 e]) = .returned (.tuple #[x, .int .i64 m, .int .i64 e]) := by rw [h]

theorem read_results (tmps : Array Value) (w : World) (B : Nat) (p q : Value) (h2 : tmps.getD 2 undef = .pointer (some ⟨B, 0, none⟩)) (m0 : w.cell? ⟨B, 0, none⟩ = some p) (m1 : w.cell? ⟨B, 1, none⟩ = some q) :
    (results Tryz.f85 tmps).run Tryz.prog w = .ok (.tuple #[.agg #[p, q], tmps.getD 3 undef, tmps.getD 4 undef]) w := by
  have h2' : tmps[2]?.getD undef = .pointer (some ⟨B, 0, none⟩) := by simpa using h2
  simp [results, Tryz.results85, go_sem, h2', m0, m1]

/-- What Read answers. -/
def ReadR (T : Nat) (w : World) (b : List UInt8) (e : Ending) (w' : World) : Prop :=
  ∃ r, e = .returned (.tuple #[fv (fread b).1 r, .int .i64 ((fread b).2.1 : Nat), .int .i64 (fread b).2.2]) ∧ Own w' w.heap.size T r (fread b).1.body ∧ Ext w w'

set_option maxRecDepth 100000 in
set_option maxHeartbeats 1000000 in
theorem read_any (v : Value) (b : List UInt8) (w : World) (hb : Byt w v b) (hl : b.length ≤ 1048576) :
    Calls Tryz.prog 85 #[v] w (ReadR 5 w b) := by
  obtain ⟨ao, cap, rfl, hle, hm, hnn, hcell⟩ := hb.open
  have HN := hid hnn
  clear hcell hnn
  have HB := hid hb
  clear hb
  by_cases h7 : b.length < 7
  · have hdec : decide ((b.length : Int) < 7) = true := by simp; omega
    have hR : fread b = (f0, 0, 3) := by unfold fread; rw [if_pos h7]
    have HR := hid hR
    clear hR
    go_enter Tryz.func85, Tryz.ntmps85
    go_wp2
    go_returns
    unfold ReadR
    rw [HR.out]
    exact ⟨.slice none 0 0, rfl, Own.nil _ _ _, by (repeat' (first | (with_reducible exact Below.refl _ _) | (with_reducible assumption) | (with_reducible refine Below.alloc ?_ ?_ _) | (with_reducible refine Below.drew ?_) | (with_reducible refine Below.setCell ?_ ?_ _) | (refine Go.Tum.Ext.trans ?_ (by with_reducible assumption)) | go_size))⟩
  have hdec : decide ((b.length : Int) < 7) = false := by simp; omega
  have hp1 : Byt w (.slice ao 7 cap) (b.take 7) := by
    have := Byt.part HB.out 0 7 (by omega) (by omega) ao (by split <;> simp [Addr.add])
    simpa using this
  have HP1 := hid hp1
  clear hp1
  by_cases h1 : isPut (b.take 7) = false
  · have hR : fread b = (f0, 0, 8) := by unfold fread; rw [if_neg h7, if_pos h1]
    have HR := hid hR
    have H1 := hid h1
    clear hR h1
    go_enter Tryz.func85, Tryz.ntmps85
    go_wp2_with fail
    refine (cut_any _ (b.take 7) _ (HP1.out.ext (Ext.alloc _ _)) (by simp; omega)).mono ?_
    rintro e w1 ⟨r, rfl, hr, hw1⟩
    rw [H1.out]
    have hE : Ext w w1 := (Ext.alloc _ _).trans hw1
    have hB := hw1.obj (heap_alloc_new w _)
    have HSZ := hid hw1.size
    have hsz : w.heap.size < w1.heap.size := by have := hw1.size; simp at this; omega
    clear hw1
    clear hr
    obtain ⟨k0, k1, k2, k3⟩ := blk2 hB
    have hB2 := Go.Joins.block_setCell (i := 1) (Go.Joins.block_setCell (i := 0) hB (.int .u8 0)) (.slice none 0 0)
    clear hB
    go_wp2
    obtain ⟨m0, m1, -, -⟩ := blk2 hB2
    refine bodyPost_ret (read_results _ _ _ _ _ rfl m0 m1) rfl ?_
    unfold ReadR
    rw [HR.out]
    exact ⟨.slice none 0 0, rfl, Own.nil _ _ _, by (repeat' (first | (with_reducible exact Below.refl _ _) | (with_reducible assumption) | (with_reducible refine Below.alloc ?_ ?_ _) | (with_reducible refine Below.drew ?_) | (with_reducible refine Below.setCell ?_ ?_ _) | (refine Go.Tum.Ext.trans ?_ (by with_reducible assumption)) | go_size))⟩
  have h1' : isPut (b.take 7) = true := by simpa using h1
  have H1 := hid h1'
  have hcut := cut_isPut h1'
  rw [take3 b (by omega)] at hcut
  obtain ⟨x0, hx0⟩ : ∃ x, b.getD 0 0 = x := ⟨_, rfl⟩
  obtain ⟨x1, hx1⟩ : ∃ x, b.getD 1 0 = x := ⟨_, rfl⟩
  obtain ⟨x2, hx2⟩ : ∃ x, b.getD 2 0 = x := ⟨_, rfl⟩
  rw [hx0, hx1, hx2] at hcut
  have hfl : ((x1.toNat + 256 * x2.toNat : Nat) : Int) = (flen b : Int) := by rw [← hx1, ← hx2]; rfl
  have HFL := hid hfl
  have HX0 := hid hx0
  have HCUT := hid hcut
  have hn2 : flen b ≤ 65535 := by unfold flen; have := (b.getD 1 0).toNat_lt; have := (b.getD 2 0).toNat_lt; omega
  clear h1' hcut hx0 hx1 hx2 hfl
  by_cases h4 : 400 < flen b
  · have hR : fread b = (f0, 0, 2) := by unfold fread; rw [if_neg h7, if_neg h1, if_pos h4]
    have HR := hid hR
    have hd4 : decide (400 < (flen b : Int)) = true := by simp; omega
    clear hR h1
    go_enter Tryz.func85, Tryz.ntmps85
    go_wp2_with fail
    refine (cut_any _ (b.take 7) _ (HP1.out.ext (Ext.alloc _ _)) (by simp; omega)).mono ?_
    rintro e w1 ⟨r, rfl, hr, hw1⟩
    rw [H1.out]
    have hE : Ext w w1 := (Ext.alloc _ _).trans hw1
    have hB := hw1.obj (heap_alloc_new w _)
    have HSZ := hid hw1.size
    have hsz : w.heap.size < w1.heap.size := by have := hw1.size; simp at this; omega
    clear hw1
    rw [HCUT.out] at hr
    obtain ⟨ro, rc, rfl, hrl, hrm, hrn, hrcell⟩ := hr.byt.open
    have c0 : ∀ a, ro = some a → w1.cell? a = some (.int .u8 (x0.toNat : Int)) := fun a ha => hrcell a ha 0 (by simp)
    obtain ⟨ra, rfl⟩ := hrn (by simp at hrl; omega)
    replace c0 := c0 ra rfl
    simp only [List.length_cons, List.length_nil] at hrl
    have hrl' : 3 ≤ rc := by omega
    have hpn : Byt w1 (.slice (some ⟨ra.block, ra.off + 1, none⟩) 2 (rc - 1)) [x1, x2] := by
      have := Byt.part hr.byt 1 3 (by omega) (by simp) (some ⟨ra.block, ra.off + 1, none⟩) (by rw [if_neg (by omega)]; simp [Addr.add])
      exact this
    have HRO := hid hr
    have HPN := hid hpn
    clear hrcell hrn hpn hr hrl
    go_wp2_with fail
    refine (number_any _ x1 x2 _ HPN.out).mono ?_
    rintro e w9 ⟨rfl, rfl⟩
    rw [HFL.out]
    obtain ⟨k0, k1, k2, k3⟩ := blk2 hB
    have hB2 := Go.Joins.block_setCell (i := 1) (Go.Joins.block_setCell (i := 0) hB (.int .u8 0)) (.slice none 0 0)
    clear hB
    go_wp2
    obtain ⟨m0, m1, -, -⟩ := blk2 hB2
    refine bodyPost_ret (read_results _ _ _ _ _ rfl m0 m1) rfl ?_
    unfold ReadR
    rw [HR.out]
    exact ⟨.slice none 0 0, rfl, Own.nil _ _ _, by (repeat' (first | (with_reducible exact Below.refl _ _) | (with_reducible assumption) | (with_reducible refine Below.alloc ?_ ?_ _) | (with_reducible refine Below.drew ?_) | (with_reducible refine Below.setCell ?_ ?_ _) | (refine Go.Tum.Ext.trans ?_ (by with_reducible assumption)) | go_size))⟩
  have hd4 : decide (400 < (flen b : Int)) = false := by simp; omega
  by_cases h5 : b.length < flen b + 11
  · have hR : fread b = (f0, 0, 3) := by unfold fread; rw [if_neg h7, if_neg h1, if_neg h4, if_pos h5]
    have HR := hid hR
    have hd5 : decide ((b.length : Int) < 7 + (flen b : Int) + 4) = true := by simp; omega
    clear hR h1
    go_enter Tryz.func85, Tryz.ntmps85
    go_wp2_with fail
    refine (cut_any _ (b.take 7) _ (HP1.out.ext (Ext.alloc _ _)) (by simp; omega)).mono ?_
    rintro e w1 ⟨r, rfl, hr, hw1⟩
    rw [H1.out]
    have hE : Ext w w1 := (Ext.alloc _ _).trans hw1
    have hB := hw1.obj (heap_alloc_new w _)
    have HSZ := hid hw1.size
    have hsz : w.heap.size < w1.heap.size := by have := hw1.size; simp at this; omega
    clear hw1
    rw [HCUT.out] at hr
    obtain ⟨ro, rc, rfl, hrl, hrm, hrn, hrcell⟩ := hr.byt.open
    have c0 : ∀ a, ro = some a → w1.cell? a = some (.int .u8 (x0.toNat : Int)) := fun a ha => hrcell a ha 0 (by simp)
    obtain ⟨ra, rfl⟩ := hrn (by simp at hrl; omega)
    replace c0 := c0 ra rfl
    simp only [List.length_cons, List.length_nil] at hrl
    have hrl' : 3 ≤ rc := by omega
    have hpn : Byt w1 (.slice (some ⟨ra.block, ra.off + 1, none⟩) 2 (rc - 1)) [x1, x2] := by
      have := Byt.part hr.byt 1 3 (by omega) (by simp) (some ⟨ra.block, ra.off + 1, none⟩) (by rw [if_neg (by omega)]; simp [Addr.add])
      exact this
    have HRO := hid hr
    have HPN := hid hpn
    clear hrcell hrn hpn hr hrl
    go_wp2_with fail
    refine (number_any _ x1 x2 _ HPN.out).mono ?_
    rintro e w9 ⟨rfl, rfl⟩
    rw [HFL.out]
    obtain ⟨k0, k1, k2, k3⟩ := blk2 hB
    have hB2 := Go.Joins.block_setCell (i := 1) (Go.Joins.block_setCell (i := 0) hB (.int .u8 0)) (.slice none 0 0)
    clear hB
    go_wp2
    obtain ⟨m0, m1, -, -⟩ := blk2 hB2
    refine bodyPost_ret (read_results _ _ _ _ _ rfl m0 m1) rfl ?_
    unfold ReadR
    rw [HR.out]
    exact ⟨.slice none 0 0, rfl, Own.nil _ _ _, by (repeat' (first | (with_reducible exact Below.refl _ _) | (with_reducible assumption) | (with_reducible refine Below.alloc ?_ ?_ _) | (with_reducible refine Below.drew ?_) | (with_reducible refine Below.setCell ?_ ?_ _) | (refine Go.Tum.Ext.trans ?_ (by with_reducible assumption)) | go_size))⟩
  have hd5 : decide ((b.length : Int) < 7 + (flen b : Int) + 4) = false := by simp; omega
  obtain ⟨ap, rfl⟩ := HN.out (by omega)
  have hp2 : Byt w (.slice (some ⟨ap.block, ap.off + 7, none⟩) (7 + flen b - 3) (cap - 7)) ((b.drop 7).take (flen b + 4)) := by
    have h := Byt.part HB.out 7 (flen b + 11) (by omega) (by omega) (some ⟨ap.block, ap.off + 7, none⟩) (by rw [if_neg (by omega)]; simp [Addr.add])
    rw [show flen b + 11 - 7 = flen b + 4 by omega] at h
    rw [show 7 + flen b - 3 = flen b + 4 by omega]
    exact h
  have HP2 := hid hp2
  clear hp2
  cases h6 : isPut ((b.drop 7).take (flen b + 4)) with
  | false =>
    have hR : fread b = (f0, 0, 8) := by unfold fread; rw [if_neg h7, if_neg h1, if_neg h4, if_neg h5, if_pos h6]
    have HR := hid hR
    have H6 := hid h6
    clear hR h1 h6
    go_enter Tryz.func85, Tryz.ntmps85
    go_wp2_with fail
    refine (cut_any _ (b.take 7) _ (HP1.out.ext (Ext.alloc _ _)) (by simp; omega)).mono ?_
    rintro e w1 ⟨r, rfl, hr, hw1⟩
    rw [H1.out]
    have hE : Ext w w1 := (Ext.alloc _ _).trans hw1
    have hB := hw1.obj (heap_alloc_new w _)
    have HSZ := hid hw1.size
    have hsz : w.heap.size < w1.heap.size := by have := hw1.size; simp at this; omega
    clear hw1
    rw [HCUT.out] at hr
    obtain ⟨ro, rc, rfl, hrl, hrm, hrn, hrcell⟩ := hr.byt.open
    have c0 : ∀ a, ro = some a → w1.cell? a = some (.int .u8 (x0.toNat : Int)) := fun a ha => hrcell a ha 0 (by simp)
    obtain ⟨ra, rfl⟩ := hrn (by simp at hrl; omega)
    replace c0 := c0 ra rfl
    simp only [List.length_cons, List.length_nil] at hrl
    have hrl' : 3 ≤ rc := by omega
    have hpn : Byt w1 (.slice (some ⟨ra.block, ra.off + 1, none⟩) 2 (rc - 1)) [x1, x2] := by
      have := Byt.part hr.byt 1 3 (by omega) (by simp) (some ⟨ra.block, ra.off + 1, none⟩) (by rw [if_neg (by omega)]; simp [Addr.add])
      exact this
    have HRO := hid hr
    have HPN := hid hpn
    clear hrcell hrn hpn hr hrl
    go_wp2_with fail
    refine (number_any _ x1 x2 _ HPN.out).mono ?_
    rintro e w9 ⟨rfl, rfl⟩
    rw [HFL.out]
    have hI : (flen b : Int) + 11 ≤ b.length := by omega
    have hI2 : (flen b : Int) + 11 ≤ cap := by omega
    have hI3 : 7 + (flen b : Int) + 4 ≤ b.length := by omega
    go_wp2_with fail
    refine (cut_any _ _ _ (HP2.out.ext hE) (by simp; omega)).mono ?_
    rintro e w2 ⟨r2, rfl, hr2, hw2⟩
    rw [H6.out]
    replace hB := hw2.obj hB
    obtain ⟨k0, k1, k2, k3⟩ := blk2 hB
    have hE2 := hE.trans hw2
    have hsz2 := hw2.size
    have hB2 := Go.Joins.block_setCell (i := 1) (Go.Joins.block_setCell (i := 0) hB (.int .u8 0)) (.slice none 0 0)
    clear hB
    go_wp2
    obtain ⟨m0, m1, -, -⟩ := blk2 hB2
    refine bodyPost_ret (read_results _ _ _ _ _ rfl m0 m1) rfl ?_
    unfold ReadR
    rw [HR.out]
    exact ⟨.slice none 0 0, rfl, Own.nil _ _ _, by (repeat' (first | (with_reducible exact Below.refl _ _) | (with_reducible assumption) | (with_reducible refine Below.alloc ?_ ?_ _) | (with_reducible refine Below.drew ?_) | (with_reducible refine Below.setCell ?_ ?_ _) | (refine Go.Tum.Ext.trans ?_ (by with_reducible assumption)) | go_size))⟩
  | true =>
    have hR : fread b = (⟨x0, (b.drop 7).take (flen b)⟩, flen b + 11, 0) := by unfold fread; rw [if_neg h7, if_neg h1, if_neg h4, if_neg h5, if_neg (by rw [h6]; decide), HX0.out]
    have hcut2 : Crc.cut ((b.drop 7).take (flen b + 4)) = (b.drop 7).take (flen b) := by
      rw [cut_isPut h6, List.take_take]
      congr 1
      simp; omega
    obtain ⟨bd, hbd⟩ : ∃ x, (b.drop 7).take (flen b) = x := ⟨_, rfl⟩
    rw [hbd] at hcut2 hR
    have HCUT2 := hid hcut2
    clear hcut2 hbd
    have HR := hid hR
    have H6 := hid h6
    clear hR h1 h6
    go_enter Tryz.func85, Tryz.ntmps85
    go_wp2_with fail
    refine (cut_any _ (b.take 7) _ (HP1.out.ext (Ext.alloc _ _)) (by simp; omega)).mono ?_
    rintro e w1 ⟨r, rfl, hr, hw1⟩
    rw [H1.out]
    have hE : Ext w w1 := (Ext.alloc _ _).trans hw1
    have hB := hw1.obj (heap_alloc_new w _)
    have HSZ := hid hw1.size
    have hsz : w.heap.size < w1.heap.size := by have := hw1.size; simp at this; omega
    clear hw1
    rw [HCUT.out] at hr
    obtain ⟨ro, rc, rfl, hrl, hrm, hrn, hrcell⟩ := hr.byt.open
    have c0 : ∀ a, ro = some a → w1.cell? a = some (.int .u8 (x0.toNat : Int)) := fun a ha => hrcell a ha 0 (by simp)
    obtain ⟨ra, rfl⟩ := hrn (by simp at hrl; omega)
    replace c0 := c0 ra rfl
    simp only [List.length_cons, List.length_nil] at hrl
    have hrl' : 3 ≤ rc := by omega
    have hpn : Byt w1 (.slice (some ⟨ra.block, ra.off + 1, none⟩) 2 (rc - 1)) [x1, x2] := by
      have := Byt.part hr.byt 1 3 (by omega) (by simp) (some ⟨ra.block, ra.off + 1, none⟩) (by rw [if_neg (by omega)]; simp [Addr.add])
      exact this
    have HRO := hid hr
    have HPN := hid hpn
    clear hrcell hrn hpn hr hrl
    go_wp2_with fail
    refine (number_any _ x1 x2 _ HPN.out).mono ?_
    rintro e w9 ⟨rfl, rfl⟩
    rw [HFL.out]
    have hI : (flen b : Int) + 11 ≤ b.length := by omega
    have hI2 : (flen b : Int) + 11 ≤ cap := by omega
    have hI3 : 7 + (flen b : Int) + 4 ≤ b.length := by omega
    go_wp2_with fail
    refine (cut_any _ _ _ (HP2.out.ext hE) (by simp; omega)).mono ?_
    rintro e w2 ⟨r2, rfl, hr2, hw2⟩
    rw [H6.out]
    replace hB := hw2.obj hB
    obtain ⟨k0, k1, k2, k3⟩ := blk2 hB
    have hE2 := hE.trans hw2
    have hsz2 := hw2.size
    rw [HCUT2.out] at hr2
    obtain ⟨so, sc, rfl, -, -, -, -⟩ := hr2.byt.open
    replace c0 := hw2.cell c0
    have hr3 := own_setLow (own_setLow hr2 ⟨w.heap.size, 0, none⟩ (.int .u8 (x0.toNat : Int)) hsz) ⟨w.heap.size, 1, none⟩ (.slice so bd.length sc) hsz
    have hB2 := Go.Joins.block_setCell (i := 1) (Go.Joins.block_setCell (i := 0) hB (.int .u8 (x0.toNat : Int))) (.slice so bd.length sc)
    clear hB
    go_wp2
    obtain ⟨m0, m1, -, -⟩ := blk2 hB2
    refine bodyPost_ret (read_results _ _ _ _ _ rfl m0 m1) rfl ?_
    unfold ReadR
    rw [HR.out]
    exact ⟨_, ret_fr (by show 7 + (flen b : Int) + 4 = ((flen b + 11 : Nat) : Int); omega), hr3.mono (Nat.le_of_lt hsz), by (repeat' (first | (with_reducible exact Below.refl _ _) | (with_reducible assumption) | (with_reducible refine Below.alloc ?_ ?_ _) | (with_reducible refine Below.drew ?_) | (with_reducible refine Below.setCell ?_ ?_ _) | (refine Go.Tum.Ext.trans ?_ (by with_reducible assumption)) | go_size))⟩

end Go.Proofs.YtijpokajhjhllaaGreatDoor

set_option maxRecDepth 100000
namespace Go.Proofs.YtijpokajhjhllaaGreatDoor
open Go.RowKit Go.Tum Go.Tum.Crc

abbrev fcells (p : Fr × Value) : List Value := [.int .u8 (p.1.kind.toNat : Int), p.2]
/-- The slice v holds the frames l. -/
def Frs (w : World) (v : Value) (l : List Fr) : Prop := ∃ m : List (Fr × Value), m.map (·.1) = l ∧ RowsOf w 2 v fcells m ∧ ∀ p ∈ m, Byt w p.2 p.1.body
theorem Frs.ext {w w' : World} {v : Value} {l : List Fr} (h : Frs w v l) (k : Ext w w') : Frs w' v l := by
  obtain ⟨m, h1, h2, h3⟩ := h
  exact ⟨m, h1, h2.ext k, fun p hp => (h3 p hp).ext k⟩
theorem Frs.nil (w : World) : Frs w (.slice none 0 0) [] := ⟨[], rfl, RowsOf.nil _ _ _, fun p hp => absurd hp (by simp)⟩
/-- The call's own row of frames: blocks of type T; the bodies lie in blocks of bytes. -/
def FrsO (w : World) (base T : Nat) (v : Value) (l : List Fr) : Prop := ∃ m : List (Fr × Value), m.map (·.1) = l ∧ w.ownsRow base T 2 v m.length (m.flatMap fcells) ∧ ∀ p ∈ m, Own w base 5 p.2 p.1.body
theorem FrsO.frs {w : World} {base T : Nat} {v : Value} {l : List Fr} (h : FrsO w base T v l) : Frs w v l := by
  obtain ⟨m, h1, h2, h3⟩ := h
  exact ⟨m, h1, ⟨fun _ _ => rfl, Sl.of_owns h2⟩, fun p hp => (h3 p hp).byt⟩
theorem FrsO.ext {w w' : World} {base T : Nat} {v : Value} {l : List Fr} (h : FrsO w base T v l) (k : Ext w w') : FrsO w' base T v l := by
  obtain ⟨m, h1, h2, h3⟩ := h
  exact ⟨m, h1, k.owns h2, fun p hp => (h3 p hp).ext k⟩
theorem FrsO.mono {w : World} {b b' T : Nat} {v : Value} {l : List Fr} (h : FrsO w b T v l) (hb : b' ≤ b) : FrsO w b' T v l := by
  obtain ⟨m, h1, h2, h3⟩ := h
  exact ⟨m, h1, owns_mono h2 hb, fun p hp => (h3 p hp).mono hb⟩
theorem FrsO.nil (w : World) (base T : Nat) : FrsO w base T (.slice none 0 0) [] := ⟨[], rfl, World.ownsRow_nil _ _ _ _, fun p hp => absurd hp (by simp)⟩
theorem FrsO.lit0 (w : World) (base T : Nat) (hB : base ≤ w.heap.size) : FrsO (w.alloc (.cells #[] T)) base T (.slice (some ⟨w.heap.size, 0, none⟩) 0 0) [] :=
  ⟨[], rfl, by simpa using World.ownsRow_lit (base := base) (e := T) (size := 2) w #[] 0 hB (by simp [maxLen]) (by simp), fun p hp => absurd hp (by simp)⟩
theorem FrsO.len {w : World} {b T : Nat} {ao : Option Addr} {n cap : Nat} {l : List Fr} (h : FrsO w b T (.slice ao n cap) l) : n = l.length := by
  obtain ⟨m, rfl, h2, _⟩ := h
  rcases h2.2 with ⟨e, e2⟩ | ⟨g, c, cur, e, _⟩
  · cases e; simp [e2]
  · cases e; simp

theorem FrsO.open {w : World} {b T : Nat} {v : Value} {l : List Fr} (h : FrsO w b T v l) : ∃ ao cap, v = .slice ao l.length cap := by
  obtain ⟨m, rfl, h2, _⟩ := h
  rcases h2.2 with ⟨e, e2⟩ | ⟨g, c, cur, e, _⟩
  · subst e; exact ⟨none, 0, by simp [e2]⟩
  · subst e; exact ⟨_, c, by simp; rfl⟩

/-- Bytes lie in other blocks than a row of another type. -/
theorem own_far {w w' : World} {b b' e f size n : Nat} {u v : Value} {xs : List Value} {l : List UInt8} (h : Own w b e v l) (hu : w.ownsRow b' f size u n xs) (hne : e ≠ f) (hg : w.grownBy w' u.ownBlock) : Own w' b e v l := by
  refine ⟨h.1, ?_⟩
  rcases h.2 with hn | ⟨g', cap', cur, hv, hb, hgg, rest⟩
  · exact .inl hn
  · refine .inr ⟨g', cap', cur, hv, hb, ?_, rest⟩
    rw [hg.block g' (Array.getElem?_eq_some_iff.1 hgg).1, hgg]
    rcases hu.2 with ⟨e1, _⟩ | ⟨g, c, cur2, e1, _, hg2, _⟩
    · subst e1; simp [Value.ownBlock]
    · subst e1
      simp only [Value.ownBlock, ne_eq, Option.some.injEq]
      rintro rfl
      rw [hgg] at hg2
      simp at hg2
      exact hne hg2.2

section
variable {P : Program}
/-- 'append(s, x)': s the call's own row of frames, x a frame in a block of its own. -/
theorem wpList_append_fr {ops : Array Oper} {rest : List Oper} {o : Oper} {a : Act} {w : World} {Q : Exit → Act → World → Prop} (hgd : o.guard = none) (s x : Operand) (t : Nat)
    (ho : o.op = .call { callee := .builtin .append, args := #[s, x], argTypes := #[t, t] }) (base T : Nat) (ht : P.underlying t = some (.slice T))
    (hi : (P.info? T).map (fun i => (i.zero, i.size, i.bytes)) = some (some (.agg #[.int .u8 0, .slice none 0 0]), 2, 32)) (hT : 5 ≠ T)
    {v : Value} {l : List Fr} (hs : a.eval s = v) (hown : FrsO w base T v l) {g : Nat} {y : Fr} {r : Value} (hx : a.eval x = .slice (some ⟨g, 0, none⟩) 1 1)
    {ty : TypeId} {fr : Nat × Nat} (hblk : w.heap[g]? = some (.cells #[.int .u8 (y.kind.toNat : Int), r] ty fr)) (hr : Own w base 5 r y.body)
    (N : Nat) (hN : N = l.length + 1) (hb : N * 32 ≤ 140737488355328) (hbase : base ≤ w.heap.size)
    (h : ∀ ao cap w', FrsO w' base T (.slice ao N cap) (l ++ [y]) → w.grownBy w' v.ownBlock → Below base w w' → wpList P ops Q rest (a.put o.dst (.slice ao N cap)) w') :
    wpList P ops Q (o :: rest) a w := by
  subst hN
  obtain ⟨m, rfl, h2, h3⟩ := hown
  have hone : r.oneCell' = true := by
    obtain ⟨ao, cap, rfl, _⟩ := hr.byt.open
    rfl
  have hsl : Sl w 2 (.slice (some ⟨g, 0, none⟩) 1 1) 1 [.int .u8 (y.kind.toNat : Int), r] := by
    refine ⟨rfl, some ⟨g, 0, none⟩, 1, rfl, Nat.le_refl _, by simp [maxLen], (fun h => by cases h), fun a ha j u hu => ?_⟩
    cases ha
    have e1 : (⟨g, 0, none⟩ : Addr).add j = ⟨g, j, none⟩ := by unfold Addr.add; split <;> simp_all
    rw [e1, cell_of_row _ _ _ _ _ _ hblk]
    simpa using hu
  have hlen : (m.map (·.1)).length = m.length := by simp
  rw [hlen] at hb h
  refine wpList_append_sl hgd s x t ho base T ht hi rfl (by decide) hs h2 hx hsl (by
    intro y' hy'
    simp at hy'
    rcases hy' with rfl | rfl
    · rfl
    · exact hone) (by simp [maxLen]; omega) (by omega) hbase fun ao cap w' k1 k2 k3 => ?_
  refine h ao cap w' ⟨m ++ [(y, r)], by simp, by simpa using k1, ?_⟩ k2 k3
  intro p hp
  rcases List.mem_append.1 hp with hp | hp
  · exact own_far (h3 p hp) h2 hT k2
  · simp at hp; subst hp
    exact own_far hr h2 hT k2

/-- The same of rows alone. -/
theorem wpList_append_row2 {ops : Array Oper} {rest : List Oper} {o : Oper} {a : Act} {w : World} {Q : Exit → Act → World → Prop} (hgd : o.guard = none) (s x : Operand) (t : Nat)
    (ho : o.op = .call { callee := .builtin .append, args := #[s, x], argTypes := #[t, t] }) (base T : Nat) (ht : P.underlying t = some (.slice T))
    (hi : (P.info? T).map (fun i => (i.zero, i.size, i.bytes)) = some (some (.agg #[.int .u8 0, .slice none 0 0]), 2, 32))
    {v : Value} {n : Nat} {xs : List Value} (hs : a.eval s = v) (hown : w.ownsRow base T 2 v n xs) {g : Nat} {p r : Value} (hx : a.eval x = .slice (some ⟨g, 0, none⟩) 1 1)
    {ty : TypeId} {fr : Nat × Nat} (hblk : w.heap[g]? = some (.cells #[p, r] ty fr)) (hp : p.oneCell' = true) (hr : r.oneCell' = true)
    (hb : (n + 1) * 32 ≤ 140737488355328) (hbase : base ≤ w.heap.size)
    (h : ∀ ao cap w', w'.ownsRow base T 2 (.slice ao (n + 1) cap) (n + 1) (xs ++ [p, r]) → w.grownBy w' v.ownBlock → Below base w w' → wpList P ops Q rest (a.put o.dst (.slice ao (n + 1) cap)) w') :
    wpList P ops Q (o :: rest) a w := by
  have hsl : Sl w 2 (.slice (some ⟨g, 0, none⟩) 1 1) 1 [p, r] := by
    refine ⟨rfl, some ⟨g, 0, none⟩, 1, rfl, Nat.le_refl _, by simp [maxLen], (fun h => by cases h), fun a ha j u hu => ?_⟩
    cases ha
    have e1 : (⟨g, 0, none⟩ : Addr).add j = ⟨g, j, none⟩ := by unfold Addr.add; split <;> simp_all
    rw [e1, cell_of_row _ _ _ _ _ _ hblk]
    simpa using hu
  refine wpList_append_sl hgd s x t ho base T ht hi rfl (by decide) hs hown hx hsl (by
      intro y' hy'
      simp at hy'
      rcases hy' with rfl | rfl
      · exact hp
      · exact hr) (by simp [maxLen]; omega) (by omega) hbase fun ao cap w' k1 k2 k3 => h ao cap w' k1 k2 k3

theorem fcells_one {w : World} : ∀ {q : List (Fr × Value)}, (∀ p ∈ q, Byt w p.2 p.1.body) → ∀ y ∈ q.flatMap fcells, y.oneCell' = true := by
  intro q hq y hy
  obtain ⟨p, hp, hy⟩ := List.mem_flatMap.1 hy
  simp at hy
  rcases hy with rfl | rfl
  · rfl
  · obtain ⟨ao, cap, e, _⟩ := (hq p hp).open
    rw [e]; rfl
/-- 'append(s, x...)' of frames. -/
theorem wpList_append_frows {ops : Array Oper} {rest : List Oper} {o : Oper} {a : Act} {w : World} {Q : Exit → Act → World → Prop} (hgd : o.guard = none) (s x : Operand) (t : Nat)
    (ho : o.op = .call { callee := .builtin .append, args := #[s, x], argTypes := #[t, t] }) (base T : Nat) (ht : P.underlying t = some (.slice T))
    (hi : (P.info? T).map (fun i => (i.zero, i.size, i.bytes)) = some (some (.agg #[.int .u8 0, .slice none 0 0]), 2, 32))
    {v : Value} {q1 : List (Fr × Value)} (hs : a.eval s = v) (hown : w.ownsRow base T 2 v q1.length (q1.flatMap fcells)) {u : Value} {q : List (Fr × Value)} (hx : a.eval x = u) (hrows : RowsOf w 2 u fcells q)
    (hB : ∀ p ∈ q, Byt w p.2 p.1.body) (N : Nat) (hN : N = q1.length + q.length) (hb : N * 32 ≤ 140737488355328) (hbase : base ≤ w.heap.size)
    (h : ∀ ao cap w', w'.ownsRow base T 2 (.slice ao N cap) (q1 ++ q).length ((q1 ++ q).flatMap fcells) → w.grownBy w' v.ownBlock → Below base w w' → wpList P ops Q rest (a.put o.dst (.slice ao N cap)) w') :
    wpList P ops Q (o :: rest) a w := by
  subst hN
  refine wpList_append_sl hgd s x t ho base T ht hi rfl (by decide) hs hown hx hrows.2 (fcells_one hB) (by simp [maxLen]; omega) (by omega) hbase fun ao cap w' k1 k2 k3 => ?_
  exact h ao cap w' (by rw [List.length_append, List.flatMap_append]; exact k1) k2 k3
end

theorem ret_all {x : Value} {n m e f : Int} (h : n = m) (k : e = f) : Ending.returned (.tuple #[x, .int .i64 n, .int .i64 e]) = .returned (.tuple #[x, .int .i64 m, .int .i64 f]) := by rw [h, k]

/-- What All answers. -/
def AllR (T : Nat) (w : World) (b : List UInt8) (e : Ending) (w' : World) : Prop :=
  ∃ r, e = .returned (.tuple #[r, .int .i64 ((fall b).2.1 : Nat), .int .i64 (fall b).2.2]) ∧ FrsO w' w.heap.size T r (fall b).1 ∧ Ext w w'
end Go.Proofs.YtijpokajhjhllaaGreatDoor

