/- Package frame: Same; the document's frames. -/
import Derived.Test.YtafdandnbbbdfaaDoorFrmB
import Derived.Test.YtafdandnbbbdfaaDoorRef01
import Derived.Test.YtafdandnbbbdfaaDoorSame
namespace Go.Proofs.YtafdandnbbbdfaaDoor
open Go.RowKit Go.Tum Go.Tum.Crc

def sameB (x y : Fr) : Bool := decide (x = y)
theorem sameB_eq (x y : Fr) : sameB x y = ((x.kind == y.kind) && (x.body == y.body)) := by
  unfold sameB
  cases x; cases y
  simp only [Fr.mk.injEq]
  rw [Bool.eq_iff_iff]; simp

theorem kind_eq (a b : UInt8) : ((a.toNat : Int) == (b.toNat : Int)) = (a == b) := by
  rw [Bool.eq_iff_iff]
  simp only [beq_iff_eq]
  constructor
  · intro h; exact UInt8.toNat_inj.1 (by omega)
  · rintro rfl; rfl

set_option maxRecDepth 100000 in
theorem same_any (x y : Fr) (u v : Value) (w : World) (hx : Byt w u x.body) (hy : Byt w v y.body) :
    Calls Tryd.prog 23 #[fv x u, fv y v] w fun e w' => e = .returned (.bool (sameB x y)) ∧ Ext w w' := by
  obtain ⟨k, l⟩ := x
  obtain ⟨k2, l2⟩ := y
  obtain ⟨ao, cap, rfl, -, -, -, -⟩ := hx.open
  obtain ⟨bo, cbp, rfl, -, -, -, -⟩ := hy.open
  have HX := hid hx
  have HY := hid hy
  clear hx hy
  have hk := kind_eq k k2
  cases hq : (k == k2) with
  | false =>
    rw [hq] at hk
    have HS := hid (show sameB ⟨k, l⟩ ⟨k2, l2⟩ = false by rw [sameB_eq]; simp only [hq, Bool.false_and])
    clear hq
    go_enter Tryd.func23, Tryd.ntmps23
    go_wp2
    go_ret
    refine ⟨?_, (Ext.alloc _ _).trans (Ext.alloc _ _)⟩
    rw [HS.out]
    rfl
  | true =>
    rw [hq] at hk
    have e1 := run_string_byt (P := Tryd.prog) ((HX.out.ext (Ext.alloc w (.cells #[.int .u8 (k.toNat : Int), .slice ao l.length cap] 27))).ext (Ext.alloc _ (.cells #[.int .u8 (k2.toNat : Int), .slice bo l2.length cbp] 27))) 25 9 5 Tryd.underlying25 Tryd.underlying5 Tryd.underlying9
    have e2 := run_string_byt (P := Tryd.prog) ((HY.out.ext (Ext.alloc w (.cells #[.int .u8 (k.toNat : Int), .slice ao l.length cap] 27))).ext (Ext.alloc _ (.cells #[.int .u8 (k2.toNat : Int), .slice bo l2.length cbp] 27))) 25 9 5 Tryd.underlying25 Tryd.underlying5 Tryd.underlying9
    have HS := hid (show sameB ⟨k, l⟩ ⟨k2, l2⟩ = (l == l2) by rw [sameB_eq]; simp only [hq, Bool.true_and])
    clear hq
    go_enter Tryd.func23, Tryd.ntmps23
    go_wp2
    go_ret
    refine ⟨?_, (Ext.alloc _ _).trans (Ext.alloc _ _)⟩
    rw [HS.out]
    rfl

abbrev RT : Nat := 39
set_option maxRecDepth 100000 in
theorem rbytes_any (x : Fr) (v : Value) (w : World) (hb : Byt w v x.body) :
    Calls Tryd.prog 26 #[fv x v] w fun e w' => ∃ r, e = .returned (.tuple #[r, .int .i64 (fbytesR x).2]) ∧ Own w' w.heap.size 5 r (fbytesR x).1 ∧ Ext w w' := by
  obtain ⟨ao, cap, rfl, hle, hm, hnn, hcell⟩ := hb.open
  clear hcell hnn
  have HB := hid hb
  clear hb
  by_cases h4 : 400 < x.body.length
  · have hdec : decide (400 < (x.body.length : Int)) = true := by simp; omega
    go_enter Tryd.func26, Tryd.ntmps26
    go_wp2
    go_ret2
    unfold fbytesR
    rw [if_pos h4]
    exact ⟨.slice none 0 0, rfl, Own.nil _ _ _, Ext.alloc _ _⟩
  · have hdec : decide (400 < (x.body.length : Int)) = false := by simp; omega
    go_enter Tryd.func26, Tryd.ntmps26
    go_wp2_with fail
    have c0 : (w.alloc (.cells #[.int .u8 (x.kind.toNat : Int), .slice ao x.body.length cap] 39)).cell? ⟨w.heap.size, 0, none⟩ = some (.int .u8 (x.kind.toNat : Int)) := by rw [cell_of_row _ _ _ _ _ _ (heap_alloc_new w _)]; rfl
    have c1 : (w.alloc (.cells #[.int .u8 (x.kind.toNat : Int), .slice ao x.body.length cap] 39)).cell? ⟨w.heap.size, 1, none⟩ = some (.slice ao x.body.length cap) := by rw [cell_of_row _ _ _ _ _ _ (heap_alloc_new w _)]; rfl
    have hE1 := Ext.alloc w (.cells #[.int .u8 (x.kind.toNat : Int), .slice ao x.body.length cap] 39)
    generalize w.alloc (.cells #[.int .u8 (x.kind.toNat : Int), .slice ao x.body.length cap] 39) = W at *
    have HE := hid hE1
    have C0 := hid c0
    have C1 := hid c1
    clear hE1 c0 c1
    have HCS := hid (show #[Value.int .u8 (x.kind.toNat : Int), .int .u8 ((x.body.length : Int) % 256), .int .u8 ((x.body.length : Int) / 256)] = ((hd x).map bv).toArray by
      have e1 : ((x.body.length : Int) % 256) = ((UInt8.ofNat (x.body.length % 256)).toNat : Int) := by simp
      have e2 : ((x.body.length : Int) / 256) = ((UInt8.ofNat (x.body.length / 256 % 256)).toNat : Int) := by simp; omega
      rw [e1, e2]
      rfl)
    have hw1 : IntKind.u8.wrap ((x.body.length : Int) % 256) = (x.body.length : Int) % 256 := IntWalk.u8_in _ (by omega)
    have hw2 : IntKind.i64.wrap ((x.body.length : Int) / 256) = (x.body.length : Int) / 256 := IntWalk.i64_in _ (by omega)
    have hw3 : IntKind.u8.wrap ((x.body.length : Int) / 256) = (x.body.length : Int) / 256 := IntWalk.u8_in _ (by omega)
    refine ParB.wp_region_par (l := [_, _, _, _, _, _, _, _, _, _, _, _, _, _, _, _]) rfl Ext (ParB.XI 13 (World.heap W).size) (ParB.VLB [ParB.EQ (Value.pointer (some ⟨w.heap.size, 0, none⟩)), ParB.EQ (Value.int IntKind.u8 (x.kind.toNat : Int)), ParB.EQ (Value.int IntKind.i64 (x.body.length : Int)), ParB.EQ (Value.int IntKind.i64 ((x.body.length : Int) % 256)), ParB.EQ (Value.int IntKind.u8 ((x.body.length : Int) % 256)), ParB.EQ (Value.int IntKind.i64 (x.body.length : Int)), ParB.EQ (Value.int IntKind.i64 ((x.body.length : Int) / 256)), ParB.EQ (Value.int IntKind.u8 ((x.body.length : Int) / 256)), (fun L v w' => L 9 = true ∨ Byt w' v (hd x)), (fun L v w' => L 13 = true ∨ Own w' W.heap.size 5 v (put (hd x))), ParB.EQ (Value.pointer (some ⟨w.heap.size, 1, none⟩)), ParB.EQ (Value.slice ao x.body.length cap), (fun L v w' => L 13 = true ∨ Byt w' v (put x.body)), (fun L v w' => L 13 = true ∧ Own w' W.heap.size 5 v (fbytes x)), (fun L v w' => L 13 = true ∧ Own w' W.heap.size 5 v (fbytes x)), ParB.EQ (Value.int IntKind.i64 0)]) (by kernel_rfl) (ParB.XI_refl _ _) ParB.XI_trans (Ext.draw _) (ParB.stab_mk 9 (by kernel_rfl) ?_ ?_) ?_ ?_
    · simp only [List.forall_mem_cons, List.not_mem_nil, false_implies, implies_true, and_true]
      refine ⟨fun _ _ _ _ _ _ h => h, fun _ _ _ _ _ _ h => h, fun _ _ _ _ _ _ h => h, fun _ _ _ _ _ _ h => h, fun _ _ _ _ _ _ h => h, fun _ _ _ _ _ _ h => h, fun _ _ _ _ _ _ h => h, fun _ _ _ _ _ _ h => h, fun i L v a b k hh => hh.imp (fun e => by simp [ParB.upd, e]) (fun q => q.ext k), fun i L v a b k hh => hh.imp (fun e => by simp [ParB.upd, e]) (fun q => q.ext k), fun _ _ _ _ _ _ h => h, fun _ _ _ _ _ _ h => h, fun i L v a b k hh => hh.imp (fun e => by simp [ParB.upd, e]) (fun q => q.ext k), fun i L v a b k hh => ⟨by simp [ParB.upd, hh.1], hh.2.ext k⟩, fun i L v a b k hh => ⟨by simp [ParB.upd, hh.1], hh.2.ext k⟩, fun _ _ _ _ _ _ h => h⟩
    · simp only [List.set_cons_succ, List.set_cons_zero, List.forall_mem_cons, List.not_mem_nil, false_implies, implies_true, and_true, true_and]
      refine ⟨fun _ _ _ _ _ _ h => h, fun _ _ _ _ _ _ h => h, fun _ _ _ _ _ _ h => h, fun _ _ _ _ _ _ h => h, fun _ _ _ _ _ _ h => h, fun _ _ _ _ _ _ h => h, fun _ _ _ _ _ _ h => h, fun _ _ _ _ _ _ h => h, fun L v a b hL k hh => .inl (by simp [ParB.upd, hL]), fun L v a b hL k hh => .inl (by simp [ParB.upd]), fun _ _ _ _ _ _ h => h, fun _ _ _ _ _ _ h => h, fun L v a b hL k hh => .inl (by simp [ParB.upd]), fun L v a b hL k hh => absurd hh.1 (by simp [hL]), fun _ _ _ _ _ _ h => h⟩
    · refine ⟨⟨fun _ _ _ => trivial, fun L ρ w' hX hL hG hk => ?_⟩, ?_⟩
      · obtain ⟨k0, -⟩ := hk
        have e0 : ρ (.tmp 1) = Value.pointer (some ⟨w.heap.size, 0, none⟩) := k0
        clear k0
        refine Par.val_k fun K hK => ?_
        unfold Par.val
        (go_simp; exact hK _ _ ⟨ParB.XI_refl _ _ 0 _, rfl⟩)
      refine ⟨⟨fun _ _ _ => trivial, fun L ρ w' hX hL hG hk => ?_⟩, ?_⟩
      · obtain ⟨k0, -⟩ := hk
        have e0 : ρ (.tmp 10) = Value.pointer (some ⟨w.heap.size, 0, none⟩) := k0
        clear k0
        refine Par.val_k fun K hK => ?_
        unfold Par.val
        (have c := hX.cell C0.out; go_simp; exact hK _ _ ⟨ParB.XI_refl _ _ 1 _, rfl⟩)
      refine ⟨⟨fun _ _ _ => trivial, fun L ρ w' hX hL hG hk => ?_⟩, ?_⟩
      · exact Par.val_of_run rfl ⟨ParB.XI_refl _ _ 2 _, hk.1⟩
      refine ⟨⟨fun _ _ _ => trivial, fun L ρ w' hX hL hG hk => ?_⟩, ?_⟩
      · obtain ⟨k0, k1, -⟩ := hk
        have e0 : ρ (.tmp 12) = Value.int IntKind.i64 (x.body.length : Int) := k0
        have e1 : ρ (Operand.const (Value.int IntKind.i64 256)) = (Value.int IntKind.i64 256) := k1
        clear k0 k1
        refine Par.val_k fun K hK => ?_
        unfold Par.val
        (go_simp; exact hK _ _ ⟨ParB.XI_refl _ _ 3 _, rfl⟩)
      refine ⟨⟨fun _ _ _ => trivial, fun L ρ w' hX hL hG hk => ?_⟩, ?_⟩
      · obtain ⟨k0, -⟩ := hk
        have e0 : ρ (.tmp 13) = Value.int IntKind.i64 ((x.body.length : Int) % 256) := k0
        clear k0
        refine Par.val_k fun K hK => ?_
        unfold Par.val
        (go_simp; exact hK _ _ ⟨ParB.XI_refl _ _ 4 _, rfl⟩)
      refine ⟨⟨fun _ _ _ => trivial, fun L ρ w' hX hL hG hk => ?_⟩, ?_⟩
      · exact Par.val_of_run rfl ⟨ParB.XI_refl _ _ 5 _, hk.1⟩
      refine ⟨⟨fun _ _ _ => trivial, fun L ρ w' hX hL hG hk => ?_⟩, ?_⟩
      · obtain ⟨k0, k1, -⟩ := hk
        have e0 : ρ (.tmp 15) = Value.int IntKind.i64 (x.body.length : Int) := k0
        have e1 : ρ (Operand.const (Value.int IntKind.i64 256)) = (Value.int IntKind.i64 256) := k1
        clear k0 k1
        refine Par.val_k fun K hK => ?_
        unfold Par.val
        (go_simp; exact hK _ _ ⟨ParB.XI_refl _ _ 6 _, rfl⟩)
      refine ⟨⟨fun _ _ _ => trivial, fun L ρ w' hX hL hG hk => ?_⟩, ?_⟩
      · obtain ⟨k0, -⟩ := hk
        have e0 : ρ (.tmp 16) = Value.int IntKind.i64 ((x.body.length : Int) / 256) := k0
        clear k0
        refine Par.val_k fun K hK => ?_
        unfold Par.val
        (go_simp; exact hK _ _ ⟨ParB.XI_refl _ _ 7 _, rfl⟩)
      refine ⟨⟨fun _ _ _ => trivial, fun L ρ w' hX hL hG hk => ?_⟩, ?_⟩
      · obtain ⟨k0, k1, k2, -⟩ := hk
        have e0 : ρ (.tmp 11) = Value.int IntKind.u8 (x.kind.toNat : Int) := k0
        have e1 : ρ (.tmp 14) = Value.int IntKind.u8 ((x.body.length : Int) % 256) := k1
        have e2 : ρ (.tmp 17) = Value.int IntKind.u8 ((x.body.length : Int) / 256) := k2
        clear k0 k1 k2
        refine Par.val_k fun K hK => ?_
        unfold Par.val
        (go_simp; exact hK _ _ ⟨ParB.XI_other (i0 := 13) (i := 8) (by decide) (Ext.alloc _ _), .inr (own_lit w' W.heap.size _ (hd x) _ HCS.out 3 rfl hX.size (by simp [hd, maxLen])).byt⟩)
      refine ⟨⟨fun _ _ _ => trivial, fun L ρ w' hX hL hG hk => ?_⟩, ?_⟩
      · obtain ⟨k0, k1, -⟩ := hk
        have e0 := k0
        have e1 : (fun L v w' => L 9 = true ∨ Byt w' v (hd x)) L (ρ (.tmp 18)) w' := k1
        clear k0 k1
        refine Par.val_k fun K hK => ?_
        unfold Par.val
        refine Par.val_call Tryd.func43 (by kernel_rfl) rfl e0 ?_
        simp only [List.map_toArray, List.map_cons, List.map_nil]
        refine (rput_any _ (hd x) _ (e1.resolve_left (by simp [hL])) (by simp [hd])).mono ?_
        rintro e w2 ⟨r, rfl, hr, hx2⟩
        exact ⟨_, rfl, hK _ _ ⟨ParB.XI_other (i0 := 13) (i := 9) (by decide) (hx2), .inr (hr.mono hX.size)⟩⟩
      refine ⟨⟨fun _ _ _ => trivial, fun L ρ w' hX hL hG hk => ?_⟩, ?_⟩
      · obtain ⟨k0, -⟩ := hk
        have e0 : ρ (.tmp 1) = Value.pointer (some ⟨w.heap.size, 0, none⟩) := k0
        clear k0
        refine Par.val_k fun K hK => ?_
        unfold Par.val
        (go_simp; exact hK _ _ ⟨ParB.XI_refl _ _ 10 _, rfl⟩)
      refine ⟨⟨fun _ _ _ => trivial, fun L ρ w' hX hL hG hk => ?_⟩, ?_⟩
      · obtain ⟨k0, -⟩ := hk
        have e0 : ρ (.tmp 20) = Value.pointer (some ⟨w.heap.size, 1, none⟩) := k0
        clear k0
        refine Par.val_k fun K hK => ?_
        unfold Par.val
        (have c := hX.cell C1.out; go_simp; exact hK _ _ ⟨ParB.XI_refl _ _ 11 _, rfl⟩)
      refine ⟨⟨fun _ _ _ => trivial, fun L ρ w' hX hL hG hk => ?_⟩, ?_⟩
      · obtain ⟨k0, k1, -⟩ := hk
        have e0 := k0
        have e1 : ρ (.tmp 21) = Value.slice ao x.body.length cap := k1
        clear k0 k1
        refine Par.val_k fun K hK => ?_
        unfold Par.val
        refine Par.val_call Tryd.func43 (by kernel_rfl) rfl e0 ?_
        simp only [List.map_toArray, List.map_cons, List.map_nil, e1]
        refine (rput_any _ x.body _ (HB.out.ext (HE.out.trans hX)) (by omega)).mono ?_
        rintro e w2 ⟨r, rfl, hr, hx2⟩
        exact ⟨_, rfl, hK _ _ ⟨ParB.XI_other (i0 := 13) (i := 12) (by decide) (hx2), .inr hr.byt⟩⟩
      refine ⟨⟨fun _ _ _ => trivial, fun L ρ w' hX hL hG hk => ?_⟩, ?_⟩
      · obtain ⟨k0, k1, -⟩ := hk
        have e0 : (fun L v w' => L 13 = true ∨ Own w' W.heap.size 5 v (put (hd x))) L (ρ (.tmp 19)) w' := k0
        have e1 : (fun L v w' => L 13 = true ∨ Byt w' v (put x.body)) L (ρ (.tmp 22)) w' := k1
        clear k0 k1
        refine Par.val_k fun K hK => ?_
        unfold Par.val
        (have ho := e0.resolve_left (by simp [hL]); have hby := e1.resolve_left (by simp [hL]); obtain ⟨ao2, cap2, w2, hr, ho2, hg2, hb2⟩ := run_append_byt (P := Tryd.prog) W.heap.size 25 25 5 Tryd.underlying25 info5 ho hby (by simp [put_length, hd]; omega) hX.size; refine Par.val_append hr (hK _ _ ⟨ParB.XI_same hb2, by simp [ParB.upd], ho2⟩))
      refine ⟨⟨fun _ _ _ => trivial, fun L ρ w' hX hL hG hk => ?_⟩, ?_⟩
      · obtain ⟨k0, -⟩ := hk
        have e0 : (fun L v w' => L 13 = true ∧ Own w' W.heap.size 5 v (fbytes x)) L (ρ (.tmp 23)) w' := k0
        clear k0
        refine Par.val_k fun K hK => ?_
        unfold Par.val
        (go_simp; exact hK _ _ ⟨ParB.XI_refl _ _ 14 _, by simp [ParB.upd, e0.1], e0.2⟩)
      refine ⟨⟨fun _ _ _ => trivial, fun L ρ w' hX hL hG hk => ?_⟩, ?_⟩
      · obtain ⟨k0, -⟩ := hk
        have e0 : ρ (Operand.const (Value.int IntKind.i64 0)) = (Value.int IntKind.i64 0) := k0
        clear k0
        refine Par.val_k fun K hK => ?_
        unfold Par.val
        (go_simp; exact hK _ _ ⟨ParB.XI_refl _ _ 15 _, rfl⟩)
      trivial
    intro a' w' inv
    have hX := inv.ext
    have q10 : a'.tmps.getD 10 undef = Value.pointer (some ⟨w.heap.size, 0, none⟩) := inv.done 0 _ 10 rfl rfl rfl
    have q11 : a'.tmps.getD 11 undef = Value.int IntKind.u8 (x.kind.toNat : Int) := inv.done 1 _ 11 rfl rfl rfl
    have q12 : a'.tmps.getD 12 undef = Value.int IntKind.i64 (x.body.length : Int) := inv.done 2 _ 12 rfl rfl rfl
    have q13 : a'.tmps.getD 13 undef = Value.int IntKind.i64 ((x.body.length : Int) % 256) := inv.done 3 _ 13 rfl rfl rfl
    have q14 : a'.tmps.getD 14 undef = Value.int IntKind.u8 ((x.body.length : Int) % 256) := inv.done 4 _ 14 rfl rfl rfl
    have q15 : a'.tmps.getD 15 undef = Value.int IntKind.i64 (x.body.length : Int) := inv.done 5 _ 15 rfl rfl rfl
    have q16 : a'.tmps.getD 16 undef = Value.int IntKind.i64 ((x.body.length : Int) / 256) := inv.done 6 _ 16 rfl rfl rfl
    have q17 : a'.tmps.getD 17 undef = Value.int IntKind.u8 ((x.body.length : Int) / 256) := inv.done 7 _ 17 rfl rfl rfl
    have q18 : (fun L v w' => L 9 = true ∨ Byt w' v (hd x)) (ParB.Lof (Array.replicate 16 true)) (a'.tmps.getD 18 undef) w' := inv.done 8 _ 18 rfl rfl rfl
    have q19 : (fun L v w' => L 13 = true ∨ Own w' W.heap.size 5 v (put (hd x))) (ParB.Lof (Array.replicate 16 true)) (a'.tmps.getD 19 undef) w' := inv.done 9 _ 19 rfl rfl rfl
    have q20 : a'.tmps.getD 20 undef = Value.pointer (some ⟨w.heap.size, 1, none⟩) := inv.done 10 _ 20 rfl rfl rfl
    have q21 : a'.tmps.getD 21 undef = Value.slice ao x.body.length cap := inv.done 11 _ 21 rfl rfl rfl
    have q22 : (fun L v w' => L 13 = true ∨ Byt w' v (put x.body)) (ParB.Lof (Array.replicate 16 true)) (a'.tmps.getD 22 undef) w' := inv.done 12 _ 22 rfl rfl rfl
    have q23 : (fun L v w' => L 13 = true ∧ Own w' W.heap.size 5 v (fbytes x)) (ParB.Lof (Array.replicate 16 true)) (a'.tmps.getD 23 undef) w' := inv.done 13 _ 23 rfl rfl rfl
    have q2 : (fun L v w' => L 13 = true ∧ Own w' W.heap.size 5 v (fbytes x)) (ParB.Lof (Array.replicate 16 true)) (a'.tmps.getD 2 undef) w' := inv.done 14 _ 2 rfl rfl rfl
    have q3 : a'.tmps.getD 3 undef = Value.int IntKind.i64 0 := inv.done 15 _ 3 rfl rfl rfl
    clear inv
    simp only [List.filterMap_cons, List.filterMap_nil, Par.putAll, Act.put, List.setIfInBounds_toArray, List.set_cons_succ, List.set_cons_zero, q10, q11, q12, q13, q14, q15, q16, q17, q20, q21, q3]
    clear q10 q11 q12 q13 q14 q15 q16 q17 q20 q21 q3
    generalize a'.tmps.getD 18 undef = u18 at *
    generalize a'.tmps.getD 19 undef = u19 at *
    generalize a'.tmps.getD 22 undef = u22 at *
    generalize a'.tmps.getD 23 undef = u23 at *
    generalize a'.tmps.getD 2 undef = u2 at *
    clear a'
    go_wp2
    go_ret2
    unfold fbytesR
    rw [if_neg h4]
    exact ⟨_, rfl, q2.2.mono HE.out.size, HE.out.trans hX⟩
end Go.Proofs.YtafdandnbbbdfaaDoor
