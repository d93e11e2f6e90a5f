/- Package sum: Cut. -/
import Derived.Test.YtiblhopjhpflpaaDoorSumB
import Derived.Test.YtiblhopjhpflpaaDoorPar
import Derived.Deep.QuietTactic
import Derived.BigQuiet
set_option maxRecDepth 100000
namespace Go.Proofs.YtiblhopjhpflpaaDoor
open Go.RowKit Go.Tum Go.Tum.Crc

theorem cut_any (v : Value) (l : List UInt8) (w : World) (hb : Byt w v l) (hl : l.length ≤ 1048576) :
    Calls Tryd.prog 72 #[v] w fun e w' => ∃ r, e = .returned (.tuple #[r, .bool (isPut l)]) ∧ Own w' w.heap.size 5 r (Crc.cut l) ∧ Ext w w' := by
  obtain ⟨ao, cap, rfl, hle, hm, hnn, hcell⟩ := hb.open
  clear hcell hnn
  have HB := hid hb
  clear hb
  by_cases h4 : l.length < 4
  · have hd : decide ((l.length : Int) - 4 < 0) = true := by simp; omega
    go_enter Tryd.func72, Tryd.ntmps72
    go_wp2
    go_quiet (fail)
    go_wp2
    go_ret2
    have h1 : isPut l = false := by unfold isPut; simp; omega
    refine ⟨.slice none 0 0, by rw [h1]; rfl, by unfold Crc.cut; rw [h1]; exact Own.nil _ _ _, Ext.drewN _ _⟩
  · have h4' : 4 ≤ l.length := by omega
    go_enter Tryd.func72, Tryd.ntmps72
    go_wp2
    have hp1 : Byt w (.slice ao (l.length - 4) cap) (l.take (l.length - 4)) := by
      have := Byt.part HB.out 0 (l.length - 4) (by omega) (by omega) ao (by split <;> simp [Addr.add])
      simpa using this
    have hp2 := Byt.part HB.out (l.length - 4) l.length (by omega) (by omega) _ rfl
    rw [List.take_of_length_le (by simp)] at hp2
    simp only [Nat.mul_one] at hp2
    have HP1 := hid hp1
    have HP2 := hid hp2
    clear hp1 hp2
    have hI1 : (4 : Int) ≤ l.length := by omega
    have hI2 : (l.length : Int) - 4 ≤ cap := by omega
    have hI3 : (l.length : Int) - 4 ≤ l.length := by omega
    have hd0 : decide ((l.length : Int) - 4 < 0) = false := by simp; omega
    have hlen4 : ((l.length : Int) - 4).toNat = l.length - 4 := by omega
    refine Par.wp_region_par (l := [_, _, _, _, _, _, _, _, _, _, _, _, _, _]) rfl Ext (Par.VL [Par.EQ (Value.int IntKind.i64 ((l.length : Int) - 4)), Par.EQ (Value.bool false), Par.EQ (Value.bool false), Par.EQ (Value.slice ao l.length cap), Par.EQ (Value.int IntKind.i64 ((l.length : Int) - 4)), Par.EQ (Value.slice ao (l.length - 4) cap), (fun v w' => Own w' w.heap.size 5 v (four (Crc.sum (l.take (l.length - 4))))), Par.EQ (Value.string (str (four (Crc.sum (l.take (l.length - 4)))))), Par.EQ (Value.slice ao l.length cap), Par.EQ (Value.int IntKind.i64 ((l.length : Int) - 4)), Par.EQ (Value.slice (if cap = l.length - 4 then ao else Option.map (fun x => x.add (l.length - 4)) ao) (l.length - (l.length - 4)) (cap - (l.length - 4))), Par.EQ (Value.string (str (l.drop (l.length - 4)))), Par.EQ (Value.bool (!(four (Crc.sum (l.take (l.length - 4))) == l.drop (l.length - 4)))), Par.EQ (Value.bool (!(four (Crc.sum (l.take (l.length - 4))) == l.drop (l.length - 4))))]) (by kernel_rfl) Ext.refl (fun _ _ _ h1 h2 => Ext.trans h1 h2) (Ext.draw _) (Par.VL_stab ?_) ?_ ?_
    · simp only [List.forall_mem_cons, List.not_mem_nil, false_implies, implies_true, and_true]
      refine ⟨fun _ _ _ _ h => h, fun _ _ _ _ h => h, fun _ _ _ _ h => h, fun _ _ _ _ h => h, fun _ _ _ _ h => h, fun _ _ _ _ h => h, fun _ _ _ k h => Own.ext h k, fun _ _ _ _ h => h, fun _ _ _ _ h => h, fun _ _ _ _ h => h, fun _ _ _ _ h => h, fun _ _ _ _ h => h, fun _ _ _ _ h => h, fun _ _ _ _ h => h⟩
    · refine ⟨⟨fun _ _ => trivial, fun ρ w' hX hG hk => ?_⟩, ?_⟩
      · exact Par.val_of_run rfl ⟨Ext.refl _, hk.1⟩
      refine ⟨⟨fun _ _ => trivial, fun ρ w' hX hG hk => ?_⟩, ?_⟩
      · obtain ⟨k0, k1, -⟩ := hk
        have e0 : ρ (.tmp 8) = Value.int IntKind.i64 ((l.length : Int) - 4) := k0
        have e1 : ρ (Operand.const (Value.int IntKind.i64 0)) = (Value.int IntKind.i64 0) := k1
        clear k0 k1
        refine Par.val_k fun K hK => ?_
        unfold Par.val
        (go_simp; exact hK _ _ ⟨Ext.refl _, rfl⟩)
      refine ⟨⟨fun _ _ => trivial, fun ρ w' hX hG hk => ?_⟩, ?_⟩
      · exact Par.val_of_run rfl ⟨Ext.refl _, hk.1⟩
      refine ⟨⟨fun _ _ u hu => .inl hu, fun ρ w' hX hG hk => ?_⟩, ?_⟩
      · exact Par.val_of_run rfl ⟨Ext.refl _, hk.1⟩
      refine ⟨⟨fun _ _ u hu => .inl hu, fun ρ w' hX hG hk => ?_⟩, ?_⟩
      · exact Par.val_of_run rfl ⟨Ext.refl _, hk.1⟩
      refine ⟨⟨fun _ _ u hu => .inl hu, fun ρ w' hX hG hk => ?_⟩, ?_⟩
      · obtain ⟨k0, k1, -⟩ := hk
        have e0 : ρ (.tmp 11) = Value.slice ao l.length cap := k0
        have e1 : ρ (.tmp 12) = Value.int IntKind.i64 ((l.length : Int) - 4) := k1
        clear k0 k1
        refine Par.val_k fun K hK => ?_
        unfold Par.val
        (go_simp; exact hK _ _ ⟨Ext.refl _, rfl⟩)
      refine ⟨⟨fun _ _ u hu => .inl hu, fun ρ w' hX hG hk => ?_⟩, ?_⟩
      · obtain ⟨k0, k1, -⟩ := hk
        have e0 := k0
        have e1 : ρ (.tmp 13) = Value.slice ao (l.length - 4) cap := k1
        clear k0 k1
        refine Par.val_k fun K hK => ?_
        unfold Par.val
        refine Par.val_call Tryd.func75 (by kernel_rfl) rfl e0 ?_
        simp only [List.map_toArray, List.map_cons, List.map_nil, e1]
        refine (sumBytes_any _ _ _ (HP1.out.ext hX)).mono ?_
        rintro e w2 ⟨r, rfl, hr, hx2⟩
        exact ⟨_, rfl, hK _ _ ⟨hx2, hr.mono hX.size⟩⟩
      refine ⟨⟨fun _ _ u hu => .inl hu, fun ρ w' hX hG hk => ?_⟩, ?_⟩
      · obtain ⟨k0, -⟩ := hk
        have e0 : (fun v w' => Own w' w.heap.size 5 v (four (Crc.sum (l.take (l.length - 4))))) (ρ (.tmp 14)) w' := k0
        clear k0
        refine Par.val_k fun K hK => ?_
        unfold Par.val
        (have := run_string_byt (P := Tryd.prog) e0.byt 35 9 5 Tryd.underlying35 Tryd.underlying5 Tryd.underlying9; go_simp; exact hK _ _ ⟨Ext.refl _, rfl⟩)
      refine ⟨⟨fun _ _ u hu => .inl hu, fun ρ w' hX hG hk => ?_⟩, ?_⟩
      · exact Par.val_of_run rfl ⟨Ext.refl _, hk.1⟩
      refine ⟨⟨fun _ _ u hu => .inl hu, fun ρ w' hX hG hk => ?_⟩, ?_⟩
      · exact Par.val_of_run rfl ⟨Ext.refl _, hk.1⟩
      refine ⟨⟨fun _ _ u hu => .inl hu, fun ρ w' hX hG hk => ?_⟩, ?_⟩
      · obtain ⟨k0, k1, -⟩ := hk
        have e0 : ρ (.tmp 16) = Value.slice ao l.length cap := k0
        have e1 : ρ (.tmp 17) = Value.int IntKind.i64 ((l.length : Int) - 4) := k1
        clear k0 k1
        refine Par.val_k fun K hK => ?_
        unfold Par.val
        (go_simp; exact hK _ _ ⟨Ext.refl _, rfl⟩)
      refine ⟨⟨fun _ _ u hu => .inl hu, fun ρ w' hX hG hk => ?_⟩, ?_⟩
      · obtain ⟨k0, -⟩ := hk
        have e0 : ρ (.tmp 18) = Value.slice (if cap = l.length - 4 then ao else Option.map (fun x => x.add (l.length - 4)) ao) (l.length - (l.length - 4)) (cap - (l.length - 4)) := k0
        clear k0
        refine Par.val_k fun K hK => ?_
        unfold Par.val
        (have := run_string_byt (P := Tryd.prog) (HP2.out.ext hX) 35 9 5 Tryd.underlying35 Tryd.underlying5 Tryd.underlying9; go_simp; exact hK _ _ ⟨Ext.refl _, rfl⟩)
      refine ⟨⟨fun _ _ u hu => .inl hu, fun ρ w' hX hG hk => ?_⟩, ?_⟩
      · obtain ⟨k0, k1, -⟩ := hk
        have e0 : ρ (.tmp 15) = Value.string (str (four (Crc.sum (l.take (l.length - 4))))) := k0
        have e1 : ρ (.tmp 19) = Value.string (str (l.drop (l.length - 4))) := k1
        clear k0 k1
        refine Par.val_k fun K hK => ?_
        unfold Par.val
        (go_simp; exact hK _ _ ⟨Ext.refl _, rfl⟩)
      refine ⟨⟨fun _ _ => trivial, fun ρ w' hX hG hk => ?_⟩, ?_⟩
      · obtain ⟨k0, k1, k2, -⟩ := hk
        have e0 : ρ (.tmp 10) = Value.bool false := k0
        have e1 : ρ (Operand.const (Value.bool true)) = (Value.bool true) := k1
        have e2 : ρ (.tmp 20) = Value.bool (!(four (Crc.sum (l.take (l.length - 4))) == l.drop (l.length - 4))) := k2
        clear k0 k1 k2
        refine Par.val_k fun K hK => ?_
        unfold Par.val
        (go_simp; exact hK _ _ ⟨Ext.refl _, rfl⟩)
      trivial
    intro a' w' inv
    have hX := inv.ext
    have q8 : a'.tmps.getD 8 undef = Value.int IntKind.i64 ((l.length : Int) - 4) := inv.done 0 _ 8 rfl rfl rfl
    have q9 : a'.tmps.getD 9 undef = Value.bool false := inv.done 1 _ 9 rfl rfl rfl
    have q10 : a'.tmps.getD 10 undef = Value.bool false := inv.done 2 _ 10 rfl rfl rfl
    have q11 : a'.tmps.getD 11 undef = Value.slice ao l.length cap := inv.done 3 _ 11 rfl rfl rfl
    have q12 : a'.tmps.getD 12 undef = Value.int IntKind.i64 ((l.length : Int) - 4) := inv.done 4 _ 12 rfl rfl rfl
    have q13 : a'.tmps.getD 13 undef = Value.slice ao (l.length - 4) cap := inv.done 5 _ 13 rfl rfl rfl
    have q14 : (fun v w' => Own w' w.heap.size 5 v (four (Crc.sum (l.take (l.length - 4))))) (a'.tmps.getD 14 undef) w' := inv.done 6 _ 14 rfl rfl rfl
    have q15 : a'.tmps.getD 15 undef = Value.string (str (four (Crc.sum (l.take (l.length - 4))))) := inv.done 7 _ 15 rfl rfl rfl
    have q16 : a'.tmps.getD 16 undef = Value.slice ao l.length cap := inv.done 8 _ 16 rfl rfl rfl
    have q17 : a'.tmps.getD 17 undef = Value.int IntKind.i64 ((l.length : Int) - 4) := inv.done 9 _ 17 rfl rfl rfl
    have q18 : a'.tmps.getD 18 undef = Value.slice (if cap = l.length - 4 then ao else Option.map (fun x => x.add (l.length - 4)) ao) (l.length - (l.length - 4)) (cap - (l.length - 4)) := inv.done 10 _ 18 rfl rfl rfl
    have q19 : a'.tmps.getD 19 undef = Value.string (str (l.drop (l.length - 4))) := inv.done 11 _ 19 rfl rfl rfl
    have q20 : a'.tmps.getD 20 undef = Value.bool (!(four (Crc.sum (l.take (l.length - 4))) == l.drop (l.length - 4))) := inv.done 12 _ 20 rfl rfl rfl
    have q21 : a'.tmps.getD 21 undef = Value.bool (!(four (Crc.sum (l.take (l.length - 4))) == l.drop (l.length - 4))) := inv.done 13 _ 21 rfl rfl rfl
    clear inv
    simp only [List.filterMap_cons, List.filterMap_nil, Par.putAll, Act.put, List.setIfInBounds_toArray, List.set_cons_succ, List.set_cons_zero, q8, q9, q10, q11, q12, q13, q15, q16, q17, q18, q19, q20, q21]
    clear q8 q9 q10 q11 q12 q13 q15 q16 q17 q18 q19 q20 q21
    generalize a'.tmps.getD 14 undef = u14 at *
    clear a'
    have hlast : isPut l = (four (Crc.sum (l.take (l.length - 4))) == l.drop (l.length - 4)) := isPut_eq l h4'
    generalize (four (Crc.sum (l.take (l.length - 4))) == l.drop (l.length - 4)) = b at hlast ⊢
    cases b with
    | true =>
      go_wp2_with (at_builtin; refine wpList_append_byt rfl (.const (.slice none 0 0)) (.tmp 24) 35 rfl w.heap.size 5 Tryd.underlying35 info5 rfl (Own.nil _ _ _) rfl (HP1.out.ext hX) (l.length - 4) (by simp) (by omega) hX.size ?_; intro ao2 cap2 w2 hown2 hg2 hb2)
      go_ret2
      refine ⟨_, by first | rfl | (rw [hlast]; rfl), ?_, hX.below hb2⟩
      unfold Crc.cut
      rw [hlast]
      exact hown2
    | false =>
      go_wp2
      go_ret2
      refine ⟨_, by first | rfl | (rw [hlast]; rfl), ?_, hX⟩
      unfold Crc.cut
      rw [hlast]
      exact Own.nil _ _ _
end Go.Proofs.YtiblhopjhpflpaaDoor
