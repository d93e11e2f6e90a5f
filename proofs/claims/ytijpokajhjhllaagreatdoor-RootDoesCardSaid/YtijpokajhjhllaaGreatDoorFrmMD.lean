/- The document's frames: All, Same; the statement's own.
Package frame: Same; the document's frames.
The document's frames: Read. -/
import Derived.Test.YtijpokajhjhllaaGreatDoorFrmMA
import Derived.Test.YtijpokajhjhllaaGreatDoorRef01
import Derived.Test.YtijpokajhjhllaaGreatDoorSame
import Derived.Handy
import Derived.Lib.SmallJoins
set_option maxRecDepth 100000
namespace Go.Proofs.YtijpokajhjhllaaGreatDoor
open Go.RowKit Go.Tum Go.Tum.Crc

def sameB (x y : Fr) : Bool := decide (x = y)
theorem sameB_eq (x y : Fr) : sameB x y = ((x.kind == y.kind) && (x.body == y.body)) := by
  unfold sameB
  cases x; cases y
  simp only [Fr.mk.injEq]
  rw [Bool.eq_iff_iff]; simp

theorem kind_eq (a b : UInt8) : ((a.toNat : Int) == (b.toNat : Int)) = (a == b) := by
  rw [Bool.eq_iff_iff]
  simp only [beq_iff_eq]
  constructor
  · intro h; exact UInt8.toNat_inj.1 (by omega)
  · rintro rfl; rfl

abbrev RT : Nat := 119
set_option maxRecDepth 100000 in
theorem rbytes_any (x : Fr) (v : Value) (w : World) (hb : Byt w v x.body) :
    Calls Tryz.prog 81 #[fv x v] w fun e w' => ∃ r, e = .returned (.tuple #[r, .int .i64 (fbytesR x).2]) ∧ Own w' w.heap.size 5 r (fbytesR x).1 ∧ Ext w w' := by
  obtain ⟨ao, cap, rfl, hle, hm, hnn, hcell⟩ := hb.open
  clear hcell hnn
  have HB := hid hb
  clear hb
  by_cases h4 : 400 < x.body.length
  · have hdec : decide (400 < (x.body.length : Int)) = true := by simp; omega
    go_enter Tryz.func81, Tryz.ntmps81
    go_wp2
    go_ret2
    unfold fbytesR
    rw [if_pos h4]
    exact ⟨.slice none 0 0, rfl, Own.nil _ _ _, Ext.alloc _ _⟩
  · have hdec : decide (400 < (x.body.length : Int)) = false := by simp; omega
    go_enter Tryz.func81, Tryz.ntmps81
    go_wp2_with fail
    have c0 : (w.alloc (.cells #[.int .u8 (x.kind.toNat : Int), .slice ao x.body.length cap] 119)).cell? ⟨w.heap.size, 0, none⟩ = some (.int .u8 (x.kind.toNat : Int)) := by rw [cell_of_row _ _ _ _ _ _ (heap_alloc_new w _)]; rfl
    have c1 : (w.alloc (.cells #[.int .u8 (x.kind.toNat : Int), .slice ao x.body.length cap] 119)).cell? ⟨w.heap.size, 1, none⟩ = some (.slice ao x.body.length cap) := by rw [cell_of_row _ _ _ _ _ _ (heap_alloc_new w _)]; rfl
    have hE1 := Ext.alloc w (.cells #[.int .u8 (x.kind.toNat : Int), .slice ao x.body.length cap] 119)
    generalize w.alloc (.cells #[.int .u8 (x.kind.toNat : Int), .slice ao x.body.length cap] 119) = W at *
    have HE := hid hE1
    have C0 := hid c0
    have C1 := hid c1
    clear hE1 c0 c1
    have HCS := hid (show #[Value.int .u8 (x.kind.toNat : Int), .int .u8 ((x.body.length : Int) % 256), .int .u8 ((x.body.length : Int) / 256)] = ((hd x).map bv).toArray by
      have e1 : ((x.body.length : Int) % 256) = ((UInt8.ofNat (x.body.length % 256)).toNat : Int) := by simp
      have e2 : ((x.body.length : Int) / 256) = ((UInt8.ofNat (x.body.length / 256 % 256)).toNat : Int) := by simp; omega
      rw [e1, e2]
      rfl)
    have hw1 : IntKind.u8.wrap ((x.body.length : Int) % 256) = (x.body.length : Int) % 256 := IntWalk.u8_in _ (by omega)
    have hw2 : IntKind.i64.wrap ((x.body.length : Int) / 256) = (x.body.length : Int) / 256 := IntWalk.i64_in _ (by omega)
    have hw3 : IntKind.u8.wrap ((x.body.length : Int) / 256) = (x.body.length : Int) / 256 := IntWalk.u8_in _ (by omega)
    refine ParB.wp_region_par (l := [_, _, _, _, _, _, _, _, _, _, _, _, _, _, _, _]) rfl Ext (ParB.XI 13 (World.heap W).size) (ParB.VLB [ParB.EQ (Value.pointer (some ⟨w.heap.size, 0, none⟩)), ParB.EQ (Value.int IntKind.u8 (x.kind.toNat : Int)), ParB.EQ (Value.int IntKind.i64 (x.body.length : Int)), ParB.EQ (Value.int IntKind.i64 ((x.body.length : Int) % 256)), ParB.EQ (Value.int IntKind.u8 ((x.body.length : Int) % 256)), ParB.EQ (Value.int IntKind.i64 (x.body.length : Int)), ParB.EQ (Value.int IntKind.i64 ((x.body.length : Int) / 256)), ParB.EQ (Value.int IntKind.u8 ((x.body.length : Int) / 256)), (fun L v w' => L 9 = true ∨ Byt w' v (hd x)), (fun L v w' => L 13 = true ∨ Own w' W.heap.size 5 v (put (hd x))), ParB.EQ (Value.pointer (some ⟨w.heap.size, 1, none⟩)), ParB.EQ (Value.slice ao x.body.length cap), (fun L v w' => L 13 = true ∨ Byt w' v (put x.body)), (fun L v w' => L 13 = true ∧ Own w' W.heap.size 5 v (fbytes x)), (fun L v w' => L 13 = true ∧ Own w' W.heap.size 5 v (fbytes x)), ParB.EQ (Value.int IntKind.i64 0)]) (by kernel_rfl) (ParB.XI_refl _ _) ParB.XI_trans (Ext.draw _) (ParB.stab_mk 9 (by kernel_rfl) ?_ ?_) ?_ ?_
    · simp only [List.forall_mem_cons, List.not_mem_nil, false_implies, implies_true, and_true]
      refine ⟨fun _ _ _ _ _ _ h => h, fun _ _ _ _ _ _ h => h, fun _ _ _ _ _ _ h => h, fun _ _ _ _ _ _ h => h, fun _ _ _ _ _ _ h => h, fun _ _ _ _ _ _ h => h, fun _ _ _ _ _ _ h => h, fun _ _ _ _ _ _ h => h, fun i L v a b k hh => hh.imp (fun e => by simp [ParB.upd, e]) (fun q => q.ext k), fun i L v a b k hh => hh.imp (fun e => by simp [ParB.upd, e]) (fun q => q.ext k), fun _ _ _ _ _ _ h => h, fun _ _ _ _ _ _ h => h, fun i L v a b k hh => hh.imp (fun e => by simp [ParB.upd, e]) (fun q => q.ext k), fun i L v a b k hh => ⟨by simp [ParB.upd, hh.1], hh.2.ext k⟩, fun i L v a b k hh => ⟨by simp [ParB.upd, hh.1], hh.2.ext k⟩, fun _ _ _ _ _ _ h => h⟩
    · simp only [List.set_cons_succ, List.set_cons_zero, List.forall_mem_cons, List.not_mem_nil, false_implies, implies_true, and_true, true_and]
      refine ⟨fun _ _ _ _ _ _ h => h, fun _ _ _ _ _ _ h => h, fun _ _ _ _ _ _ h => h, fun _ _ _ _ _ _ h => h, fun _ _ _ _ _ _ h => h, fun _ _ _ _ _ _ h => h, fun _ _ _ _ _ _ h => h, fun _ _ _ _ _ _ h => h, fun L v a b hL k hh => .inl (by simp [ParB.upd, hL]), fun L v a b hL k hh => .inl (by simp [ParB.upd]), fun _ _ _ _ _ _ h => h, fun _ _ _ _ _ _ h => h, fun L v a b hL k hh => .inl (by simp [ParB.upd]), fun L v a b hL k hh => absurd hh.1 (by simp [hL]), fun _ _ _ _ _ _ h => h⟩
    · refine ⟨⟨fun _ _ _ => trivial, fun L ρ w' hX hL hG hk => ?_⟩, ?_⟩
      · obtain ⟨k0, -⟩ := hk
        have e0 : ρ (.tmp 1) = Value.pointer (some ⟨w.heap.size, 0, none⟩) := k0
        clear k0
        refine Par.val_k fun K hK => ?_
        unfold Par.val
        (go_simp; exact hK _ _ ⟨ParB.XI_refl _ _ 0 _, rfl⟩)
      refine ⟨⟨fun _ _ _ => trivial, fun L ρ w' hX hL hG hk => ?_⟩, ?_⟩
      · obtain ⟨k0, -⟩ := hk
        have e0 : ρ (.tmp 10) = Value.pointer (some ⟨w.heap.size, 0, none⟩) := k0
        clear k0
        refine Par.val_k fun K hK => ?_
        unfold Par.val
        (have c := hX.cell C0.out; go_simp; exact hK _ _ ⟨ParB.XI_refl _ _ 1 _, rfl⟩)
      refine ⟨⟨fun _ _ _ => trivial, fun L ρ w' hX hL hG hk => ?_⟩, ?_⟩
      · exact Par.val_of_run rfl ⟨ParB.XI_refl _ _ 2 _, hk.1⟩
      refine ⟨⟨fun _ _ _ => trivial, fun L ρ w' hX hL hG hk => ?_⟩, ?_⟩
      · obtain ⟨k0, k1, -⟩ := hk
        have e0 : ρ (.tmp 12) = Value.int IntKind.i64 (x.body.length : Int) := k0
        have e1 : ρ (Operand.const (Value.int IntKind.i64 256)) = (Value.int IntKind.i64 256) := k1
        clear k0 k1
        refine Par.val_k fun K hK => ?_
        unfold Par.val
        (go_simp; exact hK _ _ ⟨ParB.XI_refl _ _ 3 _, rfl⟩)
      refine ⟨⟨fun _ _ _ => trivial, fun L ρ w' hX hL hG hk => ?_⟩, ?_⟩
      · obtain ⟨k0, -⟩ := hk
        have e0 : ρ (.tmp 13) = Value.int IntKind.i64 ((x.body.length : Int) % 256) := k0
        clear k0
        refine Par.val_k fun K hK => ?_
        unfold Par.val
        (go_simp; exact hK _ _ ⟨ParB.XI_refl _ _ 4 _, rfl⟩)
      refine ⟨⟨fun _ _ _ => trivial, fun L ρ w' hX hL hG hk => ?_⟩, ?_⟩
      · exact Par.val_of_run rfl ⟨ParB.XI_refl _ _ 5 _, hk.1⟩
      refine ⟨⟨fun _ _ _ => trivial, fun L ρ w' hX hL hG hk => ?_⟩, ?_⟩
      · obtain ⟨k0, k1, -⟩ := hk
        have e0 : ρ (.tmp 15) = Value.int IntKind.i64 (x.body.length : Int) := k0
        have e1 : ρ (Operand.const (Value.int IntKind.i64 256)) = (Value.int IntKind.i64 256) := k1
        clear k0 k1
        refine Par.val_k fun K hK => ?_
        unfold Par.val
        (go_simp; exact hK _ _ ⟨ParB.XI_refl _ _ 6 _, rfl⟩)
      refine ⟨⟨fun _ _ _ => trivial, fun L ρ w' hX hL hG hk => ?_⟩, ?_⟩
      · obtain ⟨k0, -⟩ := hk
        have e0 : ρ (.tmp 16) = Value.int IntKind.i64 ((x.body.length : Int) / 256) := k0
        clear k0
        refine Par.val_k fun K hK => ?_
        unfold Par.val
        (go_simp; exact hK _ _ ⟨ParB.XI_refl _ _ 7 _, rfl⟩)
      refine ⟨⟨fun _ _ _ => trivial, fun L ρ w' hX hL hG hk => ?_⟩, ?_⟩
      · obtain ⟨k0, k1, k2, -⟩ := hk
        have e0 : ρ (.tmp 11) = Value.int IntKind.u8 (x.kind.toNat : Int) := k0
        have e1 : ρ (.tmp 14) = Value.int IntKind.u8 ((x.body.length : Int) % 256) := k1
        have e2 : ρ (.tmp 17) = Value.int IntKind.u8 ((x.body.length : Int) / 256) := k2
        clear k0 k1 k2
        refine Par.val_k fun K hK => ?_
        unfold Par.val
        (go_simp; exact hK _ _ ⟨ParB.XI_other (i0 := 13) (i := 8) (by decide) (Ext.alloc _ _), .inr (own_lit w' W.heap.size _ (hd x) _ HCS.out 3 rfl hX.size (by simp [hd, maxLen])).byt⟩)
      refine ⟨⟨fun _ _ _ => trivial, fun L ρ w' hX hL hG hk => ?_⟩, ?_⟩
      · obtain ⟨k0, k1, -⟩ := hk
        have e0 := k0
        have e1 : (fun L v w' => L 9 = true ∨ Byt w' v (hd x)) L (ρ (.tmp 18)) w' := k1
        clear k0 k1
        refine Par.val_k fun K hK => ?_
        unfold Par.val
        refine Par.val_call Tryz.func100 (by kernel_rfl) rfl e0 ?_
        simp only [List.map_toArray, List.map_cons, List.map_nil]
        refine (rput_any _ (hd x) _ (e1.resolve_left (by simp [hL])) (by simp [hd])).mono ?_
        rintro e w2 ⟨r, rfl, hr, hx2⟩
        exact ⟨_, rfl, hK _ _ ⟨ParB.XI_other (i0 := 13) (i := 9) (by decide) (hx2), .inr (hr.mono hX.size)⟩⟩
      refine ⟨⟨fun _ _ _ => trivial, fun L ρ w' hX hL hG hk => ?_⟩, ?_⟩
      · obtain ⟨k0, -⟩ := hk
        have e0 : ρ (.tmp 1) = Value.pointer (some ⟨w.heap.size, 0, none⟩) := k0
        clear k0
        refine Par.val_k fun K hK => ?_
        unfold Par.val
        (go_simp; exact hK _ _ ⟨ParB.XI_refl _ _ 10 _, rfl⟩)
      refine ⟨⟨fun _ _ _ => trivial, fun L ρ w' hX hL hG hk => ?_⟩, ?_⟩
      · obtain ⟨k0, -⟩ := hk
        have e0 : ρ (.tmp 20) = Value.pointer (some ⟨w.heap.size, 1, none⟩) := k0
        clear k0
        refine Par.val_k fun K hK => ?_
        unfold Par.val
        (have c := hX.cell C1.out; go_simp; exact hK _ _ ⟨ParB.XI_refl _ _ 11 _, rfl⟩)
      refine ⟨⟨fun _ _ _ => trivial, fun L ρ w' hX hL hG hk => ?_⟩, ?_⟩
      · obtain ⟨k0, k1, -⟩ := hk
        have e0 := k0
        have e1 : ρ (.tmp 21) = Value.slice ao x.body.length cap := k1
        clear k0 k1
        refine Par.val_k fun K hK => ?_
        unfold Par.val
        refine Par.val_call Tryz.func100 (by kernel_rfl) rfl e0 ?_
        simp only [List.map_toArray, List.map_cons, List.map_nil, e1]
        refine (rput_any _ x.body _ (HB.out.ext (HE.out.trans hX)) (by omega)).mono ?_
        rintro e w2 ⟨r, rfl, hr, hx2⟩
        exact ⟨_, rfl, hK _ _ ⟨ParB.XI_other (i0 := 13) (i := 12) (by decide) (hx2), .inr hr.byt⟩⟩
      refine ⟨⟨fun _ _ _ => trivial, fun L ρ w' hX hL hG hk => ?_⟩, ?_⟩
      · obtain ⟨k0, k1, -⟩ := hk
        have e0 : (fun L v w' => L 13 = true ∨ Own w' W.heap.size 5 v (put (hd x))) L (ρ (.tmp 19)) w' := k0
        have e1 : (fun L v w' => L 13 = true ∨ Byt w' v (put x.body)) L (ρ (.tmp 22)) w' := k1
        clear k0 k1
        refine Par.val_k fun K hK => ?_
        unfold Par.val
        (have ho := e0.resolve_left (by simp [hL]); have hby := e1.resolve_left (by simp [hL]); obtain ⟨ao2, cap2, w2, hr, ho2, hg2, hb2⟩ := run_append_byt (P := Tryz.prog) W.heap.size 37 37 5 Tryz.underlying37 info5 ho hby (by simp [put_length, hd]; omega) hX.size; refine Par.val_append hr (hK _ _ ⟨ParB.XI_same hb2, by simp [ParB.upd], ho2⟩))
      refine ⟨⟨fun _ _ _ => trivial, fun L ρ w' hX hL hG hk => ?_⟩, ?_⟩
      · obtain ⟨k0, -⟩ := hk
        have e0 : (fun L v w' => L 13 = true ∧ Own w' W.heap.size 5 v (fbytes x)) L (ρ (.tmp 23)) w' := k0
        clear k0
        refine Par.val_k fun K hK => ?_
        unfold Par.val
        (go_simp; exact hK _ _ ⟨ParB.XI_refl _ _ 14 _, by simp [ParB.upd, e0.1], e0.2⟩)
      refine ⟨⟨fun _ _ _ => trivial, fun L ρ w' hX hL hG hk => ?_⟩, ?_⟩
      · obtain ⟨k0, -⟩ := hk
        have e0 : ρ (Operand.const (Value.int IntKind.i64 0)) = (Value.int IntKind.i64 0) := k0
        clear k0
        refine Par.val_k fun K hK => ?_
        unfold Par.val
        (go_simp; exact hK _ _ ⟨ParB.XI_refl _ _ 15 _, rfl⟩)
      trivial
    intro a' w' inv
    have hX := inv.ext
    have q10 : a'.tmps.getD 10 undef = Value.pointer (some ⟨w.heap.size, 0, none⟩) := inv.done 0 _ 10 rfl rfl rfl
    have q11 : a'.tmps.getD 11 undef = Value.int IntKind.u8 (x.kind.toNat : Int) := inv.done 1 _ 11 rfl rfl rfl
    have q12 : a'.tmps.getD 12 undef = Value.int IntKind.i64 (x.body.length : Int) := inv.done 2 _ 12 rfl rfl rfl
    have q13 : a'.tmps.getD 13 undef = Value.int IntKind.i64 ((x.body.length : Int) % 256) := inv.done 3 _ 13 rfl rfl rfl
    have q14 : a'.tmps.getD 14 undef = Value.int IntKind.u8 ((x.body.length : Int) % 256) := inv.done 4 _ 14 rfl rfl rfl
    have q15 : a'.tmps.getD 15 undef = Value.int IntKind.i64 (x.body.length : Int) := inv.done 5 _ 15 rfl rfl rfl
    have q16 : a'.tmps.getD 16 undef = Value.int IntKind.i64 ((x.body.length : Int) / 256) := inv.done 6 _ 16 rfl rfl rfl
    have q17 : a'.tmps.getD 17 undef = Value.int IntKind.u8 ((x.body.length : Int) / 256) := inv.done 7 _ 17 rfl rfl rfl
    have q18 : (fun L v w' => L 9 = true ∨ Byt w' v (hd x)) (ParB.Lof (Array.replicate 16 true)) (a'.tmps.getD 18 undef) w' := inv.done 8 _ 18 rfl rfl rfl
    have q19 : (fun L v w' => L 13 = true ∨ Own w' W.heap.size 5 v (put (hd x))) (ParB.Lof (Array.replicate 16 true)) (a'.tmps.getD 19 undef) w' := inv.done 9 _ 19 rfl rfl rfl
    have q20 : a'.tmps.getD 20 undef = Value.pointer (some ⟨w.heap.size, 1, none⟩) := inv.done 10 _ 20 rfl rfl rfl
    have q21 : a'.tmps.getD 21 undef = Value.slice ao x.body.length cap := inv.done 11 _ 21 rfl rfl rfl
    have q22 : (fun L v w' => L 13 = true ∨ Byt w' v (put x.body)) (ParB.Lof (Array.replicate 16 true)) (a'.tmps.getD 22 undef) w' := inv.done 12 _ 22 rfl rfl rfl
    have q23 : (fun L v w' => L 13 = true ∧ Own w' W.heap.size 5 v (fbytes x)) (ParB.Lof (Array.replicate 16 true)) (a'.tmps.getD 23 undef) w' := inv.done 13 _ 23 rfl rfl rfl
    have q2 : (fun L v w' => L 13 = true ∧ Own w' W.heap.size 5 v (fbytes x)) (ParB.Lof (Array.replicate 16 true)) (a'.tmps.getD 2 undef) w' := inv.done 14 _ 2 rfl rfl rfl
    have q3 : a'.tmps.getD 3 undef = Value.int IntKind.i64 0 := inv.done 15 _ 3 rfl rfl rfl
    clear inv
    simp only [List.filterMap_cons, List.filterMap_nil, Par.putAll, Act.put, List.setIfInBounds_toArray, List.set_cons_succ, List.set_cons_zero, q10, q11, q12, q13, q14, q15, q16, q17, q20, q21, q3]
    clear q10 q11 q12 q13 q14 q15 q16 q17 q20 q21 q3
    generalize a'.tmps.getD 18 undef = u18 at *
    generalize a'.tmps.getD 19 undef = u19 at *
    generalize a'.tmps.getD 22 undef = u22 at *
    generalize a'.tmps.getD 23 undef = u23 at *
    generalize a'.tmps.getD 2 undef = u2 at *
    clear a'
    go_wp2
    go_ret2
    unfold fbytesR
    rw [if_neg h4]
    exact ⟨_, rfl, q2.2.mono HE.out.size, HE.out.trans hX⟩
end Go.Proofs.YtijpokajhjhllaaGreatDoor

namespace Go.Proofs.YtijpokajhjhllaaGreatDoor
open Go.RowKit Go.Tum Go.Tum.Crc

theorem rfread_results (tmps : Array Value) (w : World) (B : Nat) (p q : Value) (h2 : tmps.getD 2 undef = .pointer (some ⟨B, 0, none⟩)) (m0 : w.cell? ⟨B, 0, none⟩ = some p) (m1 : w.cell? ⟨B, 1, none⟩ = some q) :
    (results Tryz.f105 tmps).run Tryz.prog w = .ok (.tuple #[.agg #[p, q], tmps.getD 3 undef, tmps.getD 4 undef]) w := by
  have h2' : tmps[2]?.getD undef = .pointer (some ⟨B, 0, none⟩) := by simpa using h2
  simp [results, Tryz.results105, go_sem, h2', m0, m1]

set_option maxRecDepth 100000 in
set_option maxHeartbeats 1000000 in
theorem rfread_any (v : Value) (b : List UInt8) (w : World) (hb : Byt w v b) (hl : b.length ≤ 1048576) :
    Calls Tryz.prog 105 #[v] w (ReadR 5 w b) := by
  obtain ⟨ao, cap, rfl, hle, hm, hnn, hcell⟩ := hb.open
  have HN := hid hnn
  clear hcell hnn
  have HB := hid hb
  clear hb
  by_cases h7 : b.length < 7
  · have hdec : decide ((b.length : Int) < 7) = true := by simp; omega
    have hR : fread b = (f0, 0, 3) := by unfold fread; rw [if_pos h7]
    have HR := hid hR
    clear hR
    go_enter Tryz.func105, Tryz.ntmps105
    go_wp2
    go_returns
    unfold ReadR
    rw [HR.out]
    exact ⟨.slice none 0 0, rfl, Own.nil _ _ _, by (repeat' (first | (with_reducible exact Below.refl _ _) | (with_reducible assumption) | (with_reducible refine Below.alloc ?_ ?_ _) | (with_reducible refine Below.drew ?_) | (with_reducible refine Below.setCell ?_ ?_ _) | (refine Go.Tum.Ext.trans ?_ (by with_reducible assumption)) | go_size))⟩
  have hdec : decide ((b.length : Int) < 7) = false := by simp; omega
  have hp1 : Byt w (.slice ao 7 cap) (b.take 7) := by
    have := Byt.part HB.out 0 7 (by omega) (by omega) ao (by split <;> simp [Addr.add])
    simpa using this
  have HP1 := hid hp1
  clear hp1
  by_cases h1 : isPut (b.take 7) = false
  · have hR : fread b = (f0, 0, 8) := by unfold fread; rw [if_neg h7, if_pos h1]
    have HR := hid hR
    have H1 := hid h1
    clear hR h1
    go_enter Tryz.func105, Tryz.ntmps105
    go_wp2_with fail
    refine (rcut_any _ (b.take 7) _ (HP1.out.ext (Ext.alloc _ _)) (by simp; omega)).mono ?_
    rintro e w1 ⟨r, rfl, hr, hw1⟩
    rw [H1.out]
    have hE : Ext w w1 := (Ext.alloc _ _).trans hw1
    have hB := hw1.obj (heap_alloc_new w _)
    have HSZ := hid hw1.size
    have hsz : w.heap.size < w1.heap.size := by have := hw1.size; simp at this; omega
    clear hw1
    clear hr
    obtain ⟨k0, k1, k2, k3⟩ := blk2 hB
    have hB2 := Go.Joins.block_setCell (i := 1) (Go.Joins.block_setCell (i := 0) hB (.int .u8 0)) (.slice none 0 0)
    clear hB
    go_wp2
    obtain ⟨m0, m1, -, -⟩ := blk2 hB2
    refine bodyPost_ret (rfread_results _ _ _ _ _ rfl m0 m1) rfl ?_
    unfold ReadR
    rw [HR.out]
    exact ⟨.slice none 0 0, rfl, Own.nil _ _ _, by (repeat' (first | (with_reducible exact Below.refl _ _) | (with_reducible assumption) | (with_reducible refine Below.alloc ?_ ?_ _) | (with_reducible refine Below.drew ?_) | (with_reducible refine Below.setCell ?_ ?_ _) | (refine Go.Tum.Ext.trans ?_ (by with_reducible assumption)) | go_size))⟩
  have h1' : isPut (b.take 7) = true := by simpa using h1
  have H1 := hid h1'
  have hcut := cut_isPut h1'
  rw [take3 b (by omega)] at hcut
  obtain ⟨x0, hx0⟩ : ∃ x, b.getD 0 0 = x := ⟨_, rfl⟩
  obtain ⟨x1, hx1⟩ : ∃ x, b.getD 1 0 = x := ⟨_, rfl⟩
  obtain ⟨x2, hx2⟩ : ∃ x, b.getD 2 0 = x := ⟨_, rfl⟩
  rw [hx0, hx1, hx2] at hcut
  have hfl : ((x1.toNat + 256 * x2.toNat : Nat) : Int) = (flen b : Int) := by rw [← hx1, ← hx2]; rfl
  have HFL := hid hfl
  have HX0 := hid hx0
  have HCUT := hid hcut
  have hn2 : flen b ≤ 65535 := by unfold flen; have := (b.getD 1 0).toNat_lt; have := (b.getD 2 0).toNat_lt; omega
  clear h1' hcut hx0 hx1 hx2 hfl
  by_cases h4 : 400 < flen b
  · have hR : fread b = (f0, 0, 2) := by unfold fread; rw [if_neg h7, if_neg h1, if_pos h4]
    have HR := hid hR
    have hd4 : decide (400 < (flen b : Int)) = true := by simp; omega
    clear hR h1
    go_enter Tryz.func105, Tryz.ntmps105
    go_wp2_with fail
    refine (rcut_any _ (b.take 7) _ (HP1.out.ext (Ext.alloc _ _)) (by simp; omega)).mono ?_
    rintro e w1 ⟨r, rfl, hr, hw1⟩
    rw [H1.out]
    have hE : Ext w w1 := (Ext.alloc _ _).trans hw1
    have hB := hw1.obj (heap_alloc_new w _)
    have HSZ := hid hw1.size
    have hsz : w.heap.size < w1.heap.size := by have := hw1.size; simp at this; omega
    clear hw1
    rw [HCUT.out] at hr
    obtain ⟨ro, rc, rfl, hrl, hrm, hrn, hrcell⟩ := hr.byt.open
    have c0 : ∀ a, ro = some a → w1.cell? a = some (.int .u8 (x0.toNat : Int)) := fun a ha => hrcell a ha 0 (by simp)
    obtain ⟨ra, rfl⟩ := hrn (by simp at hrl; omega)
    replace c0 := c0 ra rfl
    simp only [List.length_cons, List.length_nil] at hrl
    have hrl' : 3 ≤ rc := by omega
    have C1 := hid (show w1.cell? ⟨ra.block, ra.off + 1, none⟩ = some (.int .u8 (x1.toNat : Int)) from hrcell ra rfl 1 (by simp))
    have C2 := hid (show w1.cell? ⟨ra.block, ra.off + 2, none⟩ = some (.int .u8 (x2.toNat : Int)) from hrcell ra rfl 2 (by simp))
    have HRO := hid hr
    clear hrcell hrn hr hrl
    have c1 : w1.cell? ⟨ra.block, ra.off + 1, none⟩ = some (.int .u8 (x1.toNat : Int)) := C1.out
    have c2 : w1.cell? ⟨ra.block, ra.off + 2, none⟩ = some (.int .u8 (x2.toNat : Int)) := C2.out
    have hx1 := x1.toNat_lt
    have hx2 := x2.toNat_lt
    go_wp2_with fail
    go_quiet (fail)
    have hfl : ((x1.toNat : Int) + 256 * (x2.toNat : Int)) = (flen b : Int) := by have := HFL.out; omega
    rw [hfl]
    clear hx1 hx2 hfl c1 c2
    obtain ⟨W, hW⟩ : ∃ W, W = w1.drewN nq := ⟨_, rfl⟩
    rw [← hW]
    have hEq : Ext w1 W := hW ▸ Ext.drewN w1 nq
    clear hW
    replace hE := hE.trans hEq
    replace hB := hEq.obj hB
    replace c0 := hEq.cell c0
    replace hsz : w.heap.size < W.heap.size := by have := hEq.size; omega
    clear hEq
    obtain ⟨k0, k1, k2, k3⟩ := blk2 hB
    have hB2 := Go.Joins.block_setCell (i := 1) (Go.Joins.block_setCell (i := 0) hB (.int .u8 0)) (.slice none 0 0)
    clear hB
    go_wp2
    obtain ⟨m0, m1, -, -⟩ := blk2 hB2
    refine bodyPost_ret (rfread_results _ _ _ _ _ rfl m0 m1) rfl ?_
    unfold ReadR
    rw [HR.out]
    exact ⟨.slice none 0 0, rfl, Own.nil _ _ _, by (repeat' (first | (with_reducible exact Below.refl _ _) | (with_reducible assumption) | (with_reducible refine Below.alloc ?_ ?_ _) | (with_reducible refine Below.drew ?_) | (with_reducible refine Below.setCell ?_ ?_ _) | (refine Go.Tum.Ext.trans ?_ (by with_reducible assumption)) | go_size))⟩
  have hd4 : decide (400 < (flen b : Int)) = false := by simp; omega
  by_cases h5 : b.length < flen b + 11
  · have hR : fread b = (f0, 0, 3) := by unfold fread; rw [if_neg h7, if_neg h1, if_neg h4, if_pos h5]
    have HR := hid hR
    have hd5 : decide ((b.length : Int) < (flen b : Int) + 11) = true := by simp; omega
    clear hR h1
    go_enter Tryz.func105, Tryz.ntmps105
    go_wp2_with fail
    refine (rcut_any _ (b.take 7) _ (HP1.out.ext (Ext.alloc _ _)) (by simp; omega)).mono ?_
    rintro e w1 ⟨r, rfl, hr, hw1⟩
    rw [H1.out]
    have hE : Ext w w1 := (Ext.alloc _ _).trans hw1
    have hB := hw1.obj (heap_alloc_new w _)
    have HSZ := hid hw1.size
    have hsz : w.heap.size < w1.heap.size := by have := hw1.size; simp at this; omega
    clear hw1
    rw [HCUT.out] at hr
    obtain ⟨ro, rc, rfl, hrl, hrm, hrn, hrcell⟩ := hr.byt.open
    have c0 : ∀ a, ro = some a → w1.cell? a = some (.int .u8 (x0.toNat : Int)) := fun a ha => hrcell a ha 0 (by simp)
    obtain ⟨ra, rfl⟩ := hrn (by simp at hrl; omega)
    replace c0 := c0 ra rfl
    simp only [List.length_cons, List.length_nil] at hrl
    have hrl' : 3 ≤ rc := by omega
    have C1 := hid (show w1.cell? ⟨ra.block, ra.off + 1, none⟩ = some (.int .u8 (x1.toNat : Int)) from hrcell ra rfl 1 (by simp))
    have C2 := hid (show w1.cell? ⟨ra.block, ra.off + 2, none⟩ = some (.int .u8 (x2.toNat : Int)) from hrcell ra rfl 2 (by simp))
    have HRO := hid hr
    clear hrcell hrn hr hrl
    have c1 : w1.cell? ⟨ra.block, ra.off + 1, none⟩ = some (.int .u8 (x1.toNat : Int)) := C1.out
    have c2 : w1.cell? ⟨ra.block, ra.off + 2, none⟩ = some (.int .u8 (x2.toNat : Int)) := C2.out
    have hx1 := x1.toNat_lt
    have hx2 := x2.toNat_lt
    go_wp2_with fail
    go_quiet (fail)
    have hfl : ((x1.toNat : Int) + 256 * (x2.toNat : Int)) = (flen b : Int) := by have := HFL.out; omega
    rw [hfl]
    clear hx1 hx2 hfl c1 c2
    obtain ⟨W, hW⟩ : ∃ W, W = w1.drewN nq := ⟨_, rfl⟩
    rw [← hW]
    have hEq : Ext w1 W := hW ▸ Ext.drewN w1 nq
    clear hW
    replace hE := hE.trans hEq
    replace hB := hEq.obj hB
    replace c0 := hEq.cell c0
    replace hsz : w.heap.size < W.heap.size := by have := hEq.size; omega
    clear hEq
    obtain ⟨k0, k1, k2, k3⟩ := blk2 hB
    have hB2 := Go.Joins.block_setCell (i := 1) (Go.Joins.block_setCell (i := 0) hB (.int .u8 0)) (.slice none 0 0)
    clear hB
    go_wp2
    obtain ⟨m0, m1, -, -⟩ := blk2 hB2
    refine bodyPost_ret (rfread_results _ _ _ _ _ rfl m0 m1) rfl ?_
    unfold ReadR
    rw [HR.out]
    exact ⟨.slice none 0 0, rfl, Own.nil _ _ _, by (repeat' (first | (with_reducible exact Below.refl _ _) | (with_reducible assumption) | (with_reducible refine Below.alloc ?_ ?_ _) | (with_reducible refine Below.drew ?_) | (with_reducible refine Below.setCell ?_ ?_ _) | (refine Go.Tum.Ext.trans ?_ (by with_reducible assumption)) | go_size))⟩
  have hd5 : decide ((b.length : Int) < (flen b : Int) + 11) = false := by simp; omega
  obtain ⟨ap, rfl⟩ := HN.out (by omega)
  have hp2 : Byt w (.slice (some ⟨ap.block, ap.off + 7, none⟩) (flen b + 4) (cap - 7)) ((b.drop 7).take (flen b + 4)) := by
    have h := Byt.part HB.out 7 (flen b + 11) (by omega) (by omega) (some ⟨ap.block, ap.off + 7, none⟩) (by rw [if_neg (by omega)]; simp [Addr.add])
    rw [show flen b + 11 - 7 = flen b + 4 by omega] at h
    exact h
  have HP2 := hid hp2
  clear hp2
  cases h6 : isPut ((b.drop 7).take (flen b + 4)) with
  | false =>
    have hR : fread b = (f0, 0, 8) := by unfold fread; rw [if_neg h7, if_neg h1, if_neg h4, if_neg h5, if_pos h6]
    have HR := hid hR
    have H6 := hid h6
    clear hR h1 h6
    go_enter Tryz.func105, Tryz.ntmps105
    go_wp2_with fail
    refine (rcut_any _ (b.take 7) _ (HP1.out.ext (Ext.alloc _ _)) (by simp; omega)).mono ?_
    rintro e w1 ⟨r, rfl, hr, hw1⟩
    rw [H1.out]
    have hE : Ext w w1 := (Ext.alloc _ _).trans hw1
    have hB := hw1.obj (heap_alloc_new w _)
    have HSZ := hid hw1.size
    have hsz : w.heap.size < w1.heap.size := by have := hw1.size; simp at this; omega
    clear hw1
    rw [HCUT.out] at hr
    obtain ⟨ro, rc, rfl, hrl, hrm, hrn, hrcell⟩ := hr.byt.open
    have c0 : ∀ a, ro = some a → w1.cell? a = some (.int .u8 (x0.toNat : Int)) := fun a ha => hrcell a ha 0 (by simp)
    obtain ⟨ra, rfl⟩ := hrn (by simp at hrl; omega)
    replace c0 := c0 ra rfl
    simp only [List.length_cons, List.length_nil] at hrl
    have hrl' : 3 ≤ rc := by omega
    have C1 := hid (show w1.cell? ⟨ra.block, ra.off + 1, none⟩ = some (.int .u8 (x1.toNat : Int)) from hrcell ra rfl 1 (by simp))
    have C2 := hid (show w1.cell? ⟨ra.block, ra.off + 2, none⟩ = some (.int .u8 (x2.toNat : Int)) from hrcell ra rfl 2 (by simp))
    have HRO := hid hr
    clear hrcell hrn hr hrl
    have c1 : w1.cell? ⟨ra.block, ra.off + 1, none⟩ = some (.int .u8 (x1.toNat : Int)) := C1.out
    have c2 : w1.cell? ⟨ra.block, ra.off + 2, none⟩ = some (.int .u8 (x2.toNat : Int)) := C2.out
    have hx1 := x1.toNat_lt
    have hx2 := x2.toNat_lt
    go_wp2_with fail
    go_quiet (fail)
    have hfl : ((x1.toNat : Int) + 256 * (x2.toNat : Int)) = (flen b : Int) := by have := HFL.out; omega
    rw [hfl]
    clear hx1 hx2 hfl c1 c2
    obtain ⟨W, hW⟩ : ∃ W, W = w1.drewN nq := ⟨_, rfl⟩
    rw [← hW]
    have hEq : Ext w1 W := hW ▸ Ext.drewN w1 nq
    clear hW
    replace hE := hE.trans hEq
    replace hB := hEq.obj hB
    replace c0 := hEq.cell c0
    replace hsz : w.heap.size < W.heap.size := by have := hEq.size; omega
    clear hEq
    have hI : (flen b : Int) + 11 ≤ b.length := by omega
    have hI2 : (flen b : Int) + 11 ≤ cap := by omega
    have hI3 : 7 + (flen b : Int) + 4 ≤ b.length := by omega
    go_wp2_with fail
    refine (rcut_any _ _ _ (HP2.out.ext hE) (by simp; omega)).mono ?_
    rintro e w2 ⟨r2, rfl, hr2, hw2⟩
    rw [H6.out]
    replace hB := hw2.obj hB
    obtain ⟨k0, k1, k2, k3⟩ := blk2 hB
    have hE2 := hE.trans hw2
    have hsz2 := hw2.size
    have hB2 := Go.Joins.block_setCell (i := 1) (Go.Joins.block_setCell (i := 0) hB (.int .u8 0)) (.slice none 0 0)
    clear hB
    go_wp2
    obtain ⟨m0, m1, -, -⟩ := blk2 hB2
    refine bodyPost_ret (rfread_results _ _ _ _ _ rfl m0 m1) rfl ?_
    unfold ReadR
    rw [HR.out]
    exact ⟨.slice none 0 0, rfl, Own.nil _ _ _, by (repeat' (first | (with_reducible exact Below.refl _ _) | (with_reducible assumption) | (with_reducible refine Below.alloc ?_ ?_ _) | (with_reducible refine Below.drew ?_) | (with_reducible refine Below.setCell ?_ ?_ _) | (refine Go.Tum.Ext.trans ?_ (by with_reducible assumption)) | go_size))⟩
  | true =>
    have hR : fread b = (⟨x0, (b.drop 7).take (flen b)⟩, flen b + 11, 0) := by unfold fread; rw [if_neg h7, if_neg h1, if_neg h4, if_neg h5, if_neg (by rw [h6]; decide), HX0.out]
    have hcut2 : Crc.cut ((b.drop 7).take (flen b + 4)) = (b.drop 7).take (flen b) := by
      rw [cut_isPut h6, List.take_take]
      congr 1
      simp; omega
    obtain ⟨bd, hbd⟩ : ∃ x, (b.drop 7).take (flen b) = x := ⟨_, rfl⟩
    rw [hbd] at hcut2 hR
    have HCUT2 := hid hcut2
    clear hcut2 hbd
    have HR := hid hR
    have H6 := hid h6
    clear hR h1 h6
    go_enter Tryz.func105, Tryz.ntmps105
    go_wp2_with fail
    refine (rcut_any _ (b.take 7) _ (HP1.out.ext (Ext.alloc _ _)) (by simp; omega)).mono ?_
    rintro e w1 ⟨r, rfl, hr, hw1⟩
    rw [H1.out]
    have hE : Ext w w1 := (Ext.alloc _ _).trans hw1
    have hB := hw1.obj (heap_alloc_new w _)
    have HSZ := hid hw1.size
    have hsz : w.heap.size < w1.heap.size := by have := hw1.size; simp at this; omega
    clear hw1
    rw [HCUT.out] at hr
    obtain ⟨ro, rc, rfl, hrl, hrm, hrn, hrcell⟩ := hr.byt.open
    have c0 : ∀ a, ro = some a → w1.cell? a = some (.int .u8 (x0.toNat : Int)) := fun a ha => hrcell a ha 0 (by simp)
    obtain ⟨ra, rfl⟩ := hrn (by simp at hrl; omega)
    replace c0 := c0 ra rfl
    simp only [List.length_cons, List.length_nil] at hrl
    have hrl' : 3 ≤ rc := by omega
    have C1 := hid (show w1.cell? ⟨ra.block, ra.off + 1, none⟩ = some (.int .u8 (x1.toNat : Int)) from hrcell ra rfl 1 (by simp))
    have C2 := hid (show w1.cell? ⟨ra.block, ra.off + 2, none⟩ = some (.int .u8 (x2.toNat : Int)) from hrcell ra rfl 2 (by simp))
    have HRO := hid hr
    clear hrcell hrn hr hrl
    have c1 : w1.cell? ⟨ra.block, ra.off + 1, none⟩ = some (.int .u8 (x1.toNat : Int)) := C1.out
    have c2 : w1.cell? ⟨ra.block, ra.off + 2, none⟩ = some (.int .u8 (x2.toNat : Int)) := C2.out
    have hx1 := x1.toNat_lt
    have hx2 := x2.toNat_lt
    go_wp2_with fail
    go_quiet (fail)
    have hfl : ((x1.toNat : Int) + 256 * (x2.toNat : Int)) = (flen b : Int) := by have := HFL.out; omega
    rw [hfl]
    clear hx1 hx2 hfl c1 c2
    obtain ⟨W, hW⟩ : ∃ W, W = w1.drewN nq := ⟨_, rfl⟩
    rw [← hW]
    have hEq : Ext w1 W := hW ▸ Ext.drewN w1 nq
    clear hW
    replace hE := hE.trans hEq
    replace hB := hEq.obj hB
    replace c0 := hEq.cell c0
    replace hsz : w.heap.size < W.heap.size := by have := hEq.size; omega
    clear hEq
    have hI : (flen b : Int) + 11 ≤ b.length := by omega
    have hI2 : (flen b : Int) + 11 ≤ cap := by omega
    have hI3 : 7 + (flen b : Int) + 4 ≤ b.length := by omega
    go_wp2_with fail
    refine (rcut_any _ _ _ (HP2.out.ext hE) (by simp; omega)).mono ?_
    rintro e w2 ⟨r2, rfl, hr2, hw2⟩
    rw [H6.out]
    replace hB := hw2.obj hB
    obtain ⟨k0, k1, k2, k3⟩ := blk2 hB
    have hE2 := hE.trans hw2
    have hsz2 := hw2.size
    rw [HCUT2.out] at hr2
    obtain ⟨so, sc, rfl, -, -, -, -⟩ := hr2.byt.open
    replace c0 := hw2.cell c0
    have hr3 := own_setLow (own_setLow hr2 ⟨w.heap.size, 0, none⟩ (.int .u8 (x0.toNat : Int)) hsz) ⟨w.heap.size, 1, none⟩ (.slice so bd.length sc) hsz
    have hB2 := Go.Joins.block_setCell (i := 1) (Go.Joins.block_setCell (i := 0) hB (.int .u8 (x0.toNat : Int))) (.slice so bd.length sc)
    clear hB
    go_wp2
    obtain ⟨m0, m1, -, -⟩ := blk2 hB2
    refine bodyPost_ret (rfread_results _ _ _ _ _ rfl m0 m1) rfl ?_
    unfold ReadR
    rw [HR.out]
    exact ⟨_, ret_fr (by show (flen b : Int) + 11 = ((flen b + 11 : Nat) : Int); omega), hr3.mono (Nat.le_of_lt hsz), by (repeat' (first | (with_reducible exact Below.refl _ _) | (with_reducible assumption) | (with_reducible refine Below.alloc ?_ ?_ _) | (with_reducible refine Below.drew ?_) | (with_reducible refine Below.setCell ?_ ?_ _) | (refine Go.Tum.Ext.trans ?_ (by with_reducible assumption)) | go_size))⟩

end Go.Proofs.YtijpokajhjhllaaGreatDoor

namespace Go.Proofs.YtijpokajhjhllaaGreatDoor
open Go.RowKit Go.Tum Go.Tum.Crc

theorem infoRFr : (Tryz.prog.info? 119).map (fun i => (i.zero, i.size, i.bytes)) = some (some (.agg #[.int .u8 0, .slice none 0 0]), 2, 32) := by kernel_rfl

set_option maxRecDepth 100000 in
set_option maxHeartbeats 1000000 in
theorem rfall_any (v : Value) (b : List UInt8) (w : World) (hb : Byt w v b) (hl : b.length ≤ 1048576) :
    Calls Tryz.prog 87 #[v] w (AllR 119 w b) := by
  obtain ⟨ao, cap, rfl, hle, hm, hnn, hcell⟩ := hb.open
  clear hcell
  have HN := hid hnn
  have HB := hid hb
  clear hb hnn
  go_enter Tryz.func87, Tryz.ntmps87
  go_wp2
  go_loopw [5, 6] (fun o i wr => ∃ (k : Nat) (m : List Fr) (bo : Option Addr) (cbp : Nat), k ≤ b.length ∧ i = .int .i64 k ∧ m.length ≤ k ∧ o = .slice bo m.length cbp ∧ Hid (FrsO wr w.heap.size 119 (.slice bo m.length cbp) m) ∧
      Hid (fall b = (m ++ (fall (b.drop k)).1, k + (fall (b.drop k)).2.1, (fall (b.drop k)).2.2)) ∧ Hid (Ext w wr)) (fun _ i _ => b.length - (intOf i).toNat)
  case atStart => exact ⟨0, [], some ⟨w.heap.size, 0, none⟩, 0, by omega, rfl, by simp, rfl, FrsO.lit0 w _ _ (Nat.le_refl _), hid (by simp), Ext.alloc _ _⟩
  case round =>
    obtain ⟨k, m, bo, cbp, hk, rfl, hmk, rfl, HO, HV, HE⟩ := hrel
    by_cases hlt : k < b.length
    · obtain ⟨a, rfl⟩ := HN.out (by omega)
      have hp : Byt w (.slice (some (a.add k)) (b.length - k) (cap - k)) (b.drop k) := by
        have h := Byt.part HB.out k b.length (by omega) (Nat.le_refl _) (some (a.add k)) (by rw [if_neg (by omega)]; simp)
        rwa [List.take_of_length_le (by simp)] at h
      have HP := hid hp
      have hne : b.drop k ≠ [] := by intro h; have := congrArg List.length h; simp at this; omega
      obtain ⟨y, n, er, hfr⟩ : ∃ y n er, fread (b.drop k) = (y, n, er) := ⟨_, _, _, rfl⟩
      have HSZ := hid HE.out.size
      clear hp
      go_wp2_with fail
      refine (rfread_any _ (b.drop k) _ (HP.out.ext HE.out) (by simp; omega)).mono ?_
      rintro e w1 ⟨r, rfl, hr, hw1⟩
      rw [hfr] at hr ⊢
      simp only [] at hr
      have hE1 := HE.out.trans hw1
      have hsz1 := hE1.size
      have hrm := hr.mono HE.out.size
      obtain ⟨so, sc, rfl, -, -, -, -⟩ := hr.byt.open
      by_cases her : er = 0
      · subst her
        have hn := fread_le (b.drop k) (by rw [hfr])
        have hok := fall_ok hne (by rw [hfr])
        rw [hfr] at hn hok
        simp only [List.length_drop, List.drop_drop] at hn hok
        have HOK := hid hok
        have HO1 := hid (HO.out.ext hw1)
        have HR1 := hid hrm
        have HX1 := hid hE1
        clear hfr hok hr hrm hw1 hE1 hne
        have hblk : ((w1.alloc (.cells #[.int .u8 (y.kind.toNat : Int), .slice so y.body.length sc] 119)).alloc (.cells #[.int .u8 (y.kind.toNat : Int), .slice so y.body.length sc] 119)).heap[w1.heap.size + 1]? = some (.cells #[.int .u8 (y.kind.toNat : Int), .slice so y.body.length sc] 119) := by
          have := heap_alloc_new (w1.alloc (.cells #[.int .u8 (y.kind.toNat : Int), .slice so y.body.length sc] 119)) (.cells #[.int .u8 (y.kind.toNat : Int), .slice so y.body.length sc] 119)
          rwa [World.size_alloc] at this
        have HBLK := hid hblk
        clear hblk
        have hN32 : (m.length + 1) * 32 ≤ 140737488355328 := by omega
        go_wp2_with (at_builtin; refine wpList_append_fr rfl (.tmp 28) (.tmp 30) 126 rfl w.heap.size 119 Tryz.underlying126 infoRFr (by decide) rfl ((HO1.out.ext (Ext.alloc _ _)).ext (Ext.alloc _ _)) rfl HBLK.out ((HR1.out.ext (Ext.alloc _ _)).ext (Ext.alloc _ _)) (m.length + 1) rfl hN32 (by simp; omega) ?_; intro ao2 cap2 w2 hown2 hg2 hb2)
        go_roundw
        case rel => exact ⟨k + n, m ++ [y], ao2, cap2, by omega, by go_num, by simp; omega, by simp, hid (by simpa using hown2), hid (by rw [HV.out, HOK.out]; simp [Nat.add_assoc]), (((HX1.out.trans (Ext.alloc _ _)).trans (Ext.alloc _ _)).below (hb2.mono (by omega)))⟩
        case measure => simp [intOf]; omega
      · have he' : (er != 0) = true := by simp [her]
        have herr := fall_err hne (by rw [hfr]; exact her)
        have hl0 := fread_err (b.drop k) (by rw [hfr]; exact her)
        rw [hfr] at herr
        have HERR := hid herr
        have HO1 := hid (HO.out.ext hw1)
        clear hfr herr hr hrm hw1 hne her hl0
        go_wp2
        go_ret3
        refine ⟨_, ret_all (by rw [HV.out, HERR.out]; simp) (by rw [HV.out, HERR.out]), ?_, hE1.trans (Ext.alloc _ _)⟩
        rw [HV.out, HERR.out]
        simpa using HO1.out.ext (Ext.alloc _ _)
    · obtain rfl : k = b.length := by omega
      have HV' : fall b = (m, b.length, 0) := by rw [HV.out, List.drop_of_length_le (Nat.le_refl _), fall_nil]; simp
      have HV2 := hid HV'
      clear HV'
      go_wp2
      go_ret3
      refine ⟨_, ret_all (by rw [HV2.out]) (by rw [HV2.out]), ?_, HE.out⟩
      rw [HV2.out]
      exact HO.out
end Go.Proofs.YtijpokajhjhllaaGreatDoor

