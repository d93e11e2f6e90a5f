/- Package record: Right. -/
import Derived.Test.YtpbmbjdiilnaeaaDoorRecA
import Derived.Test.YtpbmbjdiilnaeaaDoorPar
import Derived.Test.YtpbmbjdiilnaeaaDoorVintA
set_option maxRecDepth 100000
namespace Go.Proofs.YtpbmbjdiilnaeaaDoor
open Go.RowKit Go.Tum Go.Tum.Crc Go.Tum.Vint

theorem blk3 {w : World} {b : Nat} {p q s : Value} {ty : TypeId} (h : w.heap[b]? = some (.cells #[p, q, s] ty (0, 0))) :
    w.cell? ⟨b, 0, none⟩ = some p ∧ w.cell? ⟨b, 1, none⟩ = some q ∧ w.cell? ⟨b, 2, none⟩ = some s := by
  refine ⟨by rw [cell_of_row _ _ _ _ _ _ h]; rfl, by rw [cell_of_row _ _ _ _ _ _ h]; rfl, by rw [cell_of_row _ _ _ _ _ _ h]; rfl⟩

theorem right_any (r : Rc) (v : Value) (w : World) (hv : Vec uv w v r.n) (ht : Tab w) :
    Calls Tryd.prog 25 #[rv r v] w fun e w' => e = .returned (.bool (rightB r)) ∧ Ext w w' := by
  obtain ⟨ao, cap, rfl, -⟩ := hv.open
  obtain ⟨kind, n, text⟩ := r
  have HT := hid ht
  clear ht hv
  have hE1 := Ext.alloc w (.cells #[.int .i64 kind, .slice ao n.length cap, .string (str text)] 62)
  obtain ⟨c0, c1, c2⟩ := blk3 (heap_alloc_new w (.cells #[.int .i64 kind, .slice ao n.length cap, .string (str text)] 62))
  have hsz := str_size text
  by_cases h1 : knownB kind = true
  · obtain ⟨k, hk18, rfl⟩ : ∃ k : Nat, k < 18 ∧ kind = (k : Int) := by
      simp only [knownB, Bool.and_eq_true, decide_eq_true_eq] at h1
      exact ⟨kind.toNat, by omega, by omega⟩
    by_cases h2 : n.length = manyT.getD k 0
    · have HR := hid (show rightB ⟨(k : Int), n, text⟩ = textB k text.length by simp [rightB, h1, many, h2])
      have e2 : ((n.length : Int) == ((manyT.getD k 0 : Nat) : Int)) = true := by rw [h2]; simp
      obtain ⟨m, hm⟩ : ∃ m, manyT.getD k 0 = m := ⟨_, rfl⟩
      have htab := HT.out k hk18
      rw [hm] at e2 htab
      have H1 := hid h1
      clear h1 h2 hm
      go_enter Tryd.func25, Tryd.ntmps25
      go_wp2_with fail
      generalize w.alloc (.cells #[.int .i64 (k : Int), .slice ao n.length cap, .string (str text)] 62) = W at *
      have HE := hid hE1
      have C0 := hid c0
      have C1 := hid c1
      have C2 := hid c2
      have CT := hid (hE1.cell htab)
      clear hE1 c0 c1 c2 htab
      refine Par.wp_region_par (l := [_, _, _, _, _, _, _, _, _, _, _, _, _, _, _, _, _, _, _, _, _, _]) rfl Ext (Par.VL [Par.EQ (Value.pointer (some ⟨w.heap.size, 0, none⟩)), Par.EQ (Value.int IntKind.i64 (k : Int)), Par.EQ (Value.bool true), Par.EQ (Value.bool true), Par.EQ (Value.pointer (some ⟨w.heap.size, 1, none⟩)), Par.EQ (Value.slice ao n.length cap), Par.EQ (Value.int IntKind.i64 (n.length : Int)), Par.EQ (Value.pointer (some ⟨w.heap.size, 0, none⟩)), Par.EQ (Value.int IntKind.i64 (k : Int)), Par.EQ (Value.pointer (some ⟨0, k, none⟩)), Par.EQ (Value.int IntKind.i64 (m : Int)), Par.EQ (Value.bool true), Par.EQ (Value.bool true), Par.EQ (Value.bool true), Par.EQ (Value.pointer (some ⟨w.heap.size, 0, none⟩)), Par.EQ (Value.int IntKind.i64 (k : Int)), Par.EQ (Value.pointer (some ⟨w.heap.size, 2, none⟩)), Par.EQ (Value.string (str text)), Par.EQ (Value.int IntKind.i64 (text.length : Int)), Par.EQ (Value.bool (textB k text.length)), Par.EQ (Value.bool (textB k text.length)), Par.EQ (Value.bool (textB k text.length))]) (by kernel_rfl) Ext.refl (fun _ _ _ h1 h2 => Ext.trans h1 h2) (Ext.draw _) (Par.VL_stab ?_) ?_ ?_
      · simp only [List.forall_mem_cons, List.not_mem_nil, false_implies, implies_true, and_true]
        refine ⟨fun _ _ _ _ h => h, fun _ _ _ _ h => h, fun _ _ _ _ h => h, fun _ _ _ _ h => h, fun _ _ _ _ h => h, fun _ _ _ _ h => h, fun _ _ _ _ h => h, fun _ _ _ _ h => h, fun _ _ _ _ h => h, fun _ _ _ _ h => h, fun _ _ _ _ h => h, fun _ _ _ _ h => h, fun _ _ _ _ h => h, fun _ _ _ _ h => h, fun _ _ _ _ h => h, fun _ _ _ _ h => h, fun _ _ _ _ h => h, fun _ _ _ _ h => h, fun _ _ _ _ h => h, fun _ _ _ _ h => h, fun _ _ _ _ h => h, fun _ _ _ _ h => h⟩
      · refine ⟨⟨fun _ _ => trivial, fun ρ w' hX hG hk => ?_⟩, ?_⟩
        · obtain ⟨k0, -⟩ := hk
          have e0 : ρ (.tmp 1) = Value.pointer (some ⟨w.heap.size, 0, none⟩) := k0
          clear k0
          refine Par.val_k fun K hK => ?_
          unfold Par.val
          (go_simp; exact hK _ _ ⟨Ext.refl _, rfl⟩)
        refine ⟨⟨fun _ _ => trivial, fun ρ w' hX hG hk => ?_⟩, ?_⟩
        · obtain ⟨k0, -⟩ := hk
          have e0 : ρ (.tmp 3) = Value.pointer (some ⟨w.heap.size, 0, none⟩) := k0
          clear k0
          refine Par.val_k fun K hK => ?_
          unfold Par.val
          (have c := hX.cell C0.out; go_simp; exact hK _ _ ⟨Ext.refl _, rfl⟩)
        refine ⟨⟨fun _ _ => trivial, fun ρ w' hX hG hk => ?_⟩, ?_⟩
        · obtain ⟨k0, k1, -⟩ := hk
          have e0 := k0
          have e1 : ρ (.tmp 4) = Value.int IntKind.i64 (k : Int) := k1
          clear k0 k1
          refine Par.val_k fun K hK => ?_
          unfold Par.val
          refine Par.val_call Tryd.func32 (by kernel_rfl) rfl e0 ?_
          simp only [List.map_toArray, List.map_cons, List.map_nil, e1]
          refine (known_any (k : Int) _).mono ?_
          rintro e w2 ⟨rfl, rfl⟩
          exact ⟨_, rfl, hK _ _ ⟨Ext.refl _, (congrArg Value.bool H1.out)⟩⟩
        refine ⟨⟨fun _ _ => trivial, fun ρ w' hX hG hk => ?_⟩, ?_⟩
        · exact Par.val_of_run rfl ⟨Ext.refl _, hk.1⟩
        refine ⟨⟨fun _ _ u hu => .inl hu, fun ρ w' hX hG hk => ?_⟩, ?_⟩
        · obtain ⟨k0, -⟩ := hk
          have e0 : ρ (.tmp 1) = Value.pointer (some ⟨w.heap.size, 0, none⟩) := k0
          clear k0
          refine Par.val_k fun K hK => ?_
          unfold Par.val
          (go_simp; exact hK _ _ ⟨Ext.refl _, rfl⟩)
        refine ⟨⟨fun _ _ u hu => .inl hu, fun ρ w' hX hG hk => ?_⟩, ?_⟩
        · obtain ⟨k0, -⟩ := hk
          have e0 : ρ (.tmp 7) = Value.pointer (some ⟨w.heap.size, 1, none⟩) := k0
          clear k0
          refine Par.val_k fun K hK => ?_
          unfold Par.val
          (have c := hX.cell C1.out; go_simp; exact hK _ _ ⟨Ext.refl _, rfl⟩)
        refine ⟨⟨fun _ _ u hu => .inl hu, fun ρ w' hX hG hk => ?_⟩, ?_⟩
        · obtain ⟨k0, -⟩ := hk
          have e0 : ρ (.tmp 8) = Value.slice ao n.length cap := k0
          clear k0
          refine Par.val_k fun K hK => ?_
          unfold Par.val
          (go_simp; exact hK _ _ ⟨Ext.refl _, rfl⟩)
        refine ⟨⟨fun _ _ u hu => .inl hu, fun ρ w' hX hG hk => ?_⟩, ?_⟩
        · obtain ⟨k0, -⟩ := hk
          have e0 : ρ (.tmp 1) = Value.pointer (some ⟨w.heap.size, 0, none⟩) := k0
          clear k0
          refine Par.val_k fun K hK => ?_
          unfold Par.val
          (go_simp; exact hK _ _ ⟨Ext.refl _, rfl⟩)
        refine ⟨⟨fun _ _ u hu => .inl hu, fun ρ w' hX hG hk => ?_⟩, ?_⟩
        · obtain ⟨k0, -⟩ := hk
          have e0 : ρ (.tmp 10) = Value.pointer (some ⟨w.heap.size, 0, none⟩) := k0
          clear k0
          refine Par.val_k fun K hK => ?_
          unfold Par.val
          (have c := hX.cell C0.out; go_simp; exact hK _ _ ⟨Ext.refl _, rfl⟩)
        refine ⟨⟨fun _ _ u hu => .inl hu, fun ρ w' hX hG hk => ?_⟩, ?_⟩
        · obtain ⟨k0, k1, -⟩ := hk
          have e0 := k0
          have e1 : ρ (.tmp 11) = Value.int IntKind.i64 (k : Int) := k1
          clear k0 k1
          refine Par.val_k fun K hK => ?_
          unfold Par.val
          (have e9 : ρ (Operand.global 0) = Value.pointer (some ⟨0, 0, none⟩) := e0; have hk19 : (k : Int) < 18 := (by omega); clear e0; go_simp; exact hK _ _ ⟨Ext.refl _, rfl⟩)
        refine ⟨⟨fun _ _ u hu => .inl hu, fun ρ w' hX hG hk => ?_⟩, ?_⟩
        · obtain ⟨k0, -⟩ := hk
          have e0 : ρ (.tmp 12) = Value.pointer (some ⟨0, k, none⟩) := k0
          clear k0
          refine Par.val_k fun K hK => ?_
          unfold Par.val
          (have c := hX.cell CT.out; go_simp; exact hK _ _ ⟨Ext.refl _, rfl⟩)
        refine ⟨⟨fun _ _ u hu => .inl hu, fun ρ w' hX hG hk => ?_⟩, ?_⟩
        · obtain ⟨k0, k1, -⟩ := hk
          have e0 : ρ (.tmp 9) = Value.int IntKind.i64 (n.length : Int) := k0
          have e1 : ρ (.tmp 13) = Value.int IntKind.i64 (m : Int) := k1
          clear k0 k1
          refine Par.val_k fun K hK => ?_
          unfold Par.val
          (go_simp; exact hK _ _ ⟨Ext.refl _, rfl⟩)
        refine ⟨⟨fun _ _ => trivial, fun ρ w' hX hG hk => ?_⟩, ?_⟩
        · obtain ⟨k0, k1, k2, -⟩ := hk
          have e0 : ρ (.tmp 6) = Value.bool true := k0
          have e1 : ρ (.tmp 14) = Value.bool true := k1
          have e2 : ρ (Operand.const (Value.bool false)) = (Value.bool false) := k2
          clear k0 k1 k2
          refine Par.val_k fun K hK => ?_
          unfold Par.val
          (go_simp; exact hK _ _ ⟨Ext.refl _, rfl⟩)
        refine ⟨⟨fun _ _ => trivial, fun ρ w' hX hG hk => ?_⟩, ?_⟩
        · exact Par.val_of_run rfl ⟨Ext.refl _, hk.1⟩
        refine ⟨⟨fun _ _ u hu => .inl hu, fun ρ w' hX hG hk => ?_⟩, ?_⟩
        · obtain ⟨k0, -⟩ := hk
          have e0 : ρ (.tmp 1) = Value.pointer (some ⟨w.heap.size, 0, none⟩) := k0
          clear k0
          refine Par.val_k fun K hK => ?_
          unfold Par.val
          (go_simp; exact hK _ _ ⟨Ext.refl _, rfl⟩)
        refine ⟨⟨fun _ _ u hu => .inl hu, fun ρ w' hX hG hk => ?_⟩, ?_⟩
        · obtain ⟨k0, -⟩ := hk
          have e0 : ρ (.tmp 17) = Value.pointer (some ⟨w.heap.size, 0, none⟩) := k0
          clear k0
          refine Par.val_k fun K hK => ?_
          unfold Par.val
          (have c := hX.cell C0.out; go_simp; exact hK _ _ ⟨Ext.refl _, rfl⟩)
        refine ⟨⟨fun _ _ u hu => .inl hu, fun ρ w' hX hG hk => ?_⟩, ?_⟩
        · obtain ⟨k0, -⟩ := hk
          have e0 : ρ (.tmp 1) = Value.pointer (some ⟨w.heap.size, 0, none⟩) := k0
          clear k0
          refine Par.val_k fun K hK => ?_
          unfold Par.val
          (go_simp; exact hK _ _ ⟨Ext.refl _, rfl⟩)
        refine ⟨⟨fun _ _ u hu => .inl hu, fun ρ w' hX hG hk => ?_⟩, ?_⟩
        · obtain ⟨k0, -⟩ := hk
          have e0 : ρ (.tmp 19) = Value.pointer (some ⟨w.heap.size, 2, none⟩) := k0
          clear k0
          refine Par.val_k fun K hK => ?_
          unfold Par.val
          (have c := hX.cell C2.out; go_simp; exact hK _ _ ⟨Ext.refl _, rfl⟩)
        refine ⟨⟨fun _ _ u hu => .inl hu, fun ρ w' hX hG hk => ?_⟩, ?_⟩
        · obtain ⟨k0, -⟩ := hk
          have e0 : ρ (.tmp 20) = Value.string (str text) := k0
          clear k0
          refine Par.val_k fun K hK => ?_
          unfold Par.val
          (go_simp; exact hK _ _ ⟨Ext.refl _, rfl⟩)
        refine ⟨⟨fun _ _ u hu => .inl hu, fun ρ w' hX hG hk => ?_⟩, ?_⟩
        · obtain ⟨k0, k1, k2, -⟩ := hk
          have e0 := k0
          have e1 : ρ (.tmp 18) = Value.int IntKind.i64 (k : Int) := k1
          have e2 : ρ (.tmp 21) = Value.int IntKind.i64 (text.length : Int) := k2
          clear k0 k1 k2
          refine Par.val_k fun K hK => ?_
          unfold Par.val
          refine Par.val_call Tryd.func33 (by kernel_rfl) rfl e0 ?_
          simp only [List.map_toArray, List.map_cons, List.map_nil, e1, e2]
          refine (textR_any (k : Int) text.length _).mono ?_
          rintro e w2 ⟨rfl, rfl⟩
          exact ⟨_, rfl, hK _ _ ⟨Ext.refl _, (rfl)⟩⟩
        refine ⟨⟨fun _ _ => trivial, fun ρ w' hX hG hk => ?_⟩, ?_⟩
        · obtain ⟨k0, k1, k2, -⟩ := hk
          have e0 : ρ (.tmp 16) = Value.bool true := k0
          have e1 : ρ (.tmp 22) = Value.bool (textB k text.length) := k1
          have e2 : ρ (Operand.const (Value.bool false)) = (Value.bool false) := k2
          clear k0 k1 k2
          refine Par.val_k fun K hK => ?_
          unfold Par.val
          (go_simp; exact hK _ _ ⟨Ext.refl _, rfl⟩)
        refine ⟨⟨fun _ _ => trivial, fun ρ w' hX hG hk => ?_⟩, ?_⟩
        · obtain ⟨k0, -⟩ := hk
          have e0 : ρ (.tmp 23) = Value.bool (textB k text.length) := k0
          clear k0
          refine Par.val_k fun K hK => ?_
          unfold Par.val
          (go_simp; exact hK _ _ ⟨Ext.refl _, rfl⟩)
        trivial
      intro a' w' inv
      have hX := inv.ext
      have q3 : a'.tmps.getD 3 undef = Value.pointer (some ⟨w.heap.size, 0, none⟩) := inv.done 0 _ 3 rfl rfl rfl
      have q4 : a'.tmps.getD 4 undef = Value.int IntKind.i64 (k : Int) := inv.done 1 _ 4 rfl rfl rfl
      have q5 : a'.tmps.getD 5 undef = Value.bool true := inv.done 2 _ 5 rfl rfl rfl
      have q6 : a'.tmps.getD 6 undef = Value.bool true := inv.done 3 _ 6 rfl rfl rfl
      have q7 : a'.tmps.getD 7 undef = Value.pointer (some ⟨w.heap.size, 1, none⟩) := inv.done 4 _ 7 rfl rfl rfl
      have q8 : a'.tmps.getD 8 undef = Value.slice ao n.length cap := inv.done 5 _ 8 rfl rfl rfl
      have q9 : a'.tmps.getD 9 undef = Value.int IntKind.i64 (n.length : Int) := inv.done 6 _ 9 rfl rfl rfl
      have q10 : a'.tmps.getD 10 undef = Value.pointer (some ⟨w.heap.size, 0, none⟩) := inv.done 7 _ 10 rfl rfl rfl
      have q11 : a'.tmps.getD 11 undef = Value.int IntKind.i64 (k : Int) := inv.done 8 _ 11 rfl rfl rfl
      have q12 : a'.tmps.getD 12 undef = Value.pointer (some ⟨0, k, none⟩) := inv.done 9 _ 12 rfl rfl rfl
      have q13 : a'.tmps.getD 13 undef = Value.int IntKind.i64 (m : Int) := inv.done 10 _ 13 rfl rfl rfl
      have q14 : a'.tmps.getD 14 undef = Value.bool true := inv.done 11 _ 14 rfl rfl rfl
      have q15 : a'.tmps.getD 15 undef = Value.bool true := inv.done 12 _ 15 rfl rfl rfl
      have q16 : a'.tmps.getD 16 undef = Value.bool true := inv.done 13 _ 16 rfl rfl rfl
      have q17 : a'.tmps.getD 17 undef = Value.pointer (some ⟨w.heap.size, 0, none⟩) := inv.done 14 _ 17 rfl rfl rfl
      have q18 : a'.tmps.getD 18 undef = Value.int IntKind.i64 (k : Int) := inv.done 15 _ 18 rfl rfl rfl
      have q19 : a'.tmps.getD 19 undef = Value.pointer (some ⟨w.heap.size, 2, none⟩) := inv.done 16 _ 19 rfl rfl rfl
      have q20 : a'.tmps.getD 20 undef = Value.string (str text) := inv.done 17 _ 20 rfl rfl rfl
      have q21 : a'.tmps.getD 21 undef = Value.int IntKind.i64 (text.length : Int) := inv.done 18 _ 21 rfl rfl rfl
      have q22 : a'.tmps.getD 22 undef = Value.bool (textB k text.length) := inv.done 19 _ 22 rfl rfl rfl
      have q23 : a'.tmps.getD 23 undef = Value.bool (textB k text.length) := inv.done 20 _ 23 rfl rfl rfl
      have q2 : a'.tmps.getD 2 undef = Value.bool (textB k text.length) := inv.done 21 _ 2 rfl rfl rfl
      clear inv
      simp only [List.filterMap_cons, List.filterMap_nil, Par.putAll, Act.put, List.setIfInBounds_toArray, List.set_cons_succ, List.set_cons_zero, q3, q4, q5, q6, q7, q8, q9, q10, q11, q12, q13, q14, q15, q16, q17, q18, q19, q20, q21, q22, q23, q2]
      clear q3 q4 q5 q6 q7 q8 q9 q10 q11 q12 q13 q14 q15 q16 q17 q18 q19 q20 q21 q22 q23 q2
      clear a'
      go_wp2
      go_ret
      rw [HR.out]
      exact ⟨rfl, HE.out.trans hX⟩
    · have HR := hid (show rightB ⟨(k : Int), n, text⟩ = false by
        have h3 : decide (n.length = many (k : Int)) = false := by simpa [many] using h2
        simp only [rightB, h3, Bool.and_false, Bool.false_and])
      have e2 : ((n.length : Int) == ((manyT.getD k 0 : Nat) : Int)) = false := by
        rw [beq_eq_false_iff_ne]; omega
      obtain ⟨m, hm⟩ : ∃ m, manyT.getD k 0 = m := ⟨_, rfl⟩
      have htab := HT.out k hk18
      rw [hm] at e2 htab
      have H1 := hid h1
      clear h1 h2 hm
      go_enter Tryd.func25, Tryd.ntmps25
      go_wp2_with fail
      generalize w.alloc (.cells #[.int .i64 (k : Int), .slice ao n.length cap, .string (str text)] 62) = W at *
      have HE := hid hE1
      have C0 := hid c0
      have C1 := hid c1
      have C2 := hid c2
      have CT := hid (hE1.cell htab)
      clear hE1 c0 c1 c2 htab
      refine Par.wp_region_par (l := [_, _, _, _, _, _, _, _, _, _, _, _, _, _, _, _, _, _, _, _, _, _]) rfl Ext (Par.VL [Par.EQ (Value.pointer (some ⟨w.heap.size, 0, none⟩)), Par.EQ (Value.int IntKind.i64 (k : Int)), Par.EQ (Value.bool true), Par.EQ (Value.bool true), Par.EQ (Value.pointer (some ⟨w.heap.size, 1, none⟩)), Par.EQ (Value.slice ao n.length cap), Par.EQ (Value.int IntKind.i64 (n.length : Int)), Par.EQ (Value.pointer (some ⟨w.heap.size, 0, none⟩)), Par.EQ (Value.int IntKind.i64 (k : Int)), Par.EQ (Value.pointer (some ⟨0, k, none⟩)), Par.EQ (Value.int IntKind.i64 (m : Int)), Par.EQ (Value.bool false), Par.EQ (Value.bool false), Par.EQ (Value.bool false), Par.EQ (undef), Par.EQ (undef), Par.EQ (undef), Par.EQ (undef), Par.EQ (undef), Par.EQ (undef), Par.EQ (Value.bool false), Par.EQ (Value.bool false)]) (by kernel_rfl) Ext.refl (fun _ _ _ h1 h2 => Ext.trans h1 h2) (Ext.draw _) (Par.VL_stab ?_) ?_ ?_
      · simp only [List.forall_mem_cons, List.not_mem_nil, false_implies, implies_true, and_true]
        refine ⟨fun _ _ _ _ h => h, fun _ _ _ _ h => h, fun _ _ _ _ h => h, fun _ _ _ _ h => h, fun _ _ _ _ h => h, fun _ _ _ _ h => h, fun _ _ _ _ h => h, fun _ _ _ _ h => h, fun _ _ _ _ h => h, fun _ _ _ _ h => h, fun _ _ _ _ h => h, fun _ _ _ _ h => h, fun _ _ _ _ h => h, fun _ _ _ _ h => h, fun _ _ _ _ h => h, fun _ _ _ _ h => h, fun _ _ _ _ h => h, fun _ _ _ _ h => h, fun _ _ _ _ h => h, fun _ _ _ _ h => h, fun _ _ _ _ h => h, fun _ _ _ _ h => h⟩
      · refine ⟨⟨fun _ _ => trivial, fun ρ w' hX hG hk => ?_⟩, ?_⟩
        · obtain ⟨k0, -⟩ := hk
          have e0 : ρ (.tmp 1) = Value.pointer (some ⟨w.heap.size, 0, none⟩) := k0
          clear k0
          refine Par.val_k fun K hK => ?_
          unfold Par.val
          (go_simp; exact hK _ _ ⟨Ext.refl _, rfl⟩)
        refine ⟨⟨fun _ _ => trivial, fun ρ w' hX hG hk => ?_⟩, ?_⟩
        · obtain ⟨k0, -⟩ := hk
          have e0 : ρ (.tmp 3) = Value.pointer (some ⟨w.heap.size, 0, none⟩) := k0
          clear k0
          refine Par.val_k fun K hK => ?_
          unfold Par.val
          (have c := hX.cell C0.out; go_simp; exact hK _ _ ⟨Ext.refl _, rfl⟩)
        refine ⟨⟨fun _ _ => trivial, fun ρ w' hX hG hk => ?_⟩, ?_⟩
        · obtain ⟨k0, k1, -⟩ := hk
          have e0 := k0
          have e1 : ρ (.tmp 4) = Value.int IntKind.i64 (k : Int) := k1
          clear k0 k1
          refine Par.val_k fun K hK => ?_
          unfold Par.val
          refine Par.val_call Tryd.func32 (by kernel_rfl) rfl e0 ?_
          simp only [List.map_toArray, List.map_cons, List.map_nil, e1]
          refine (known_any (k : Int) _).mono ?_
          rintro e w2 ⟨rfl, rfl⟩
          exact ⟨_, rfl, hK _ _ ⟨Ext.refl _, (congrArg Value.bool H1.out)⟩⟩
        refine ⟨⟨fun _ _ => trivial, fun ρ w' hX hG hk => ?_⟩, ?_⟩
        · exact Par.val_of_run rfl ⟨Ext.refl _, hk.1⟩
        refine ⟨⟨fun _ _ u hu => .inl hu, fun ρ w' hX hG hk => ?_⟩, ?_⟩
        · obtain ⟨k0, -⟩ := hk
          have e0 : ρ (.tmp 1) = Value.pointer (some ⟨w.heap.size, 0, none⟩) := k0
          clear k0
          refine Par.val_k fun K hK => ?_
          unfold Par.val
          (go_simp; exact hK _ _ ⟨Ext.refl _, rfl⟩)
        refine ⟨⟨fun _ _ u hu => .inl hu, fun ρ w' hX hG hk => ?_⟩, ?_⟩
        · obtain ⟨k0, -⟩ := hk
          have e0 : ρ (.tmp 7) = Value.pointer (some ⟨w.heap.size, 1, none⟩) := k0
          clear k0
          refine Par.val_k fun K hK => ?_
          unfold Par.val
          (have c := hX.cell C1.out; go_simp; exact hK _ _ ⟨Ext.refl _, rfl⟩)
        refine ⟨⟨fun _ _ u hu => .inl hu, fun ρ w' hX hG hk => ?_⟩, ?_⟩
        · obtain ⟨k0, -⟩ := hk
          have e0 : ρ (.tmp 8) = Value.slice ao n.length cap := k0
          clear k0
          refine Par.val_k fun K hK => ?_
          unfold Par.val
          (go_simp; exact hK _ _ ⟨Ext.refl _, rfl⟩)
        refine ⟨⟨fun _ _ u hu => .inl hu, fun ρ w' hX hG hk => ?_⟩, ?_⟩
        · obtain ⟨k0, -⟩ := hk
          have e0 : ρ (.tmp 1) = Value.pointer (some ⟨w.heap.size, 0, none⟩) := k0
          clear k0
          refine Par.val_k fun K hK => ?_
          unfold Par.val
          (go_simp; exact hK _ _ ⟨Ext.refl _, rfl⟩)
        refine ⟨⟨fun _ _ u hu => .inl hu, fun ρ w' hX hG hk => ?_⟩, ?_⟩
        · obtain ⟨k0, -⟩ := hk
          have e0 : ρ (.tmp 10) = Value.pointer (some ⟨w.heap.size, 0, none⟩) := k0
          clear k0
          refine Par.val_k fun K hK => ?_
          unfold Par.val
          (have c := hX.cell C0.out; go_simp; exact hK _ _ ⟨Ext.refl _, rfl⟩)
        refine ⟨⟨fun _ _ u hu => .inl hu, fun ρ w' hX hG hk => ?_⟩, ?_⟩
        · obtain ⟨k0, k1, -⟩ := hk
          have e0 := k0
          have e1 : ρ (.tmp 11) = Value.int IntKind.i64 (k : Int) := k1
          clear k0 k1
          refine Par.val_k fun K hK => ?_
          unfold Par.val
          (have e9 : ρ (Operand.global 0) = Value.pointer (some ⟨0, 0, none⟩) := e0; have hk19 : (k : Int) < 18 := (by omega); clear e0; go_simp; exact hK _ _ ⟨Ext.refl _, rfl⟩)
        refine ⟨⟨fun _ _ u hu => .inl hu, fun ρ w' hX hG hk => ?_⟩, ?_⟩
        · obtain ⟨k0, -⟩ := hk
          have e0 : ρ (.tmp 12) = Value.pointer (some ⟨0, k, none⟩) := k0
          clear k0
          refine Par.val_k fun K hK => ?_
          unfold Par.val
          (have c := hX.cell CT.out; go_simp; exact hK _ _ ⟨Ext.refl _, rfl⟩)
        refine ⟨⟨fun _ _ u hu => .inl hu, fun ρ w' hX hG hk => ?_⟩, ?_⟩
        · obtain ⟨k0, k1, -⟩ := hk
          have e0 : ρ (.tmp 9) = Value.int IntKind.i64 (n.length : Int) := k0
          have e1 : ρ (.tmp 13) = Value.int IntKind.i64 (m : Int) := k1
          clear k0 k1
          refine Par.val_k fun K hK => ?_
          unfold Par.val
          (go_simp; exact hK _ _ ⟨Ext.refl _, rfl⟩)
        refine ⟨⟨fun _ _ => trivial, fun ρ w' hX hG hk => ?_⟩, ?_⟩
        · obtain ⟨k0, k1, k2, -⟩ := hk
          have e0 : ρ (.tmp 6) = Value.bool true := k0
          have e1 : ρ (.tmp 14) = Value.bool false := k1
          have e2 : ρ (Operand.const (Value.bool false)) = (Value.bool false) := k2
          clear k0 k1 k2
          refine Par.val_k fun K hK => ?_
          unfold Par.val
          (go_simp; exact hK _ _ ⟨Ext.refl _, rfl⟩)
        refine ⟨⟨fun _ _ => trivial, fun ρ w' hX hG hk => ?_⟩, ?_⟩
        · exact Par.val_of_run rfl ⟨Ext.refl _, hk.1⟩
        refine ⟨⟨fun _ _ u hu => .inr rfl, fun ρ w' hX hG hk => ?_⟩, ?_⟩
        · cases hG
        refine ⟨⟨fun _ _ u hu => .inr rfl, fun ρ w' hX hG hk => ?_⟩, ?_⟩
        · cases hG
        refine ⟨⟨fun _ _ u hu => .inr rfl, fun ρ w' hX hG hk => ?_⟩, ?_⟩
        · cases hG
        refine ⟨⟨fun _ _ u hu => .inr rfl, fun ρ w' hX hG hk => ?_⟩, ?_⟩
        · cases hG
        refine ⟨⟨fun _ _ u hu => .inr rfl, fun ρ w' hX hG hk => ?_⟩, ?_⟩
        · cases hG
        refine ⟨⟨fun _ _ u hu => .inr rfl, fun ρ w' hX hG hk => ?_⟩, ?_⟩
        · cases hG
        refine ⟨⟨fun _ _ => trivial, fun ρ w' hX hG hk => ?_⟩, ?_⟩
        · obtain ⟨k0, k1, k2, -⟩ := hk
          have e0 : ρ (.tmp 16) = Value.bool false := k0
          have e1 : ρ (.tmp 22) = undef := k1
          have e2 : ρ (Operand.const (Value.bool false)) = (Value.bool false) := k2
          clear k0 k1 k2
          refine Par.val_k fun K hK => ?_
          unfold Par.val
          (go_simp; exact hK _ _ ⟨Ext.refl _, rfl⟩)
        refine ⟨⟨fun _ _ => trivial, fun ρ w' hX hG hk => ?_⟩, ?_⟩
        · obtain ⟨k0, -⟩ := hk
          have e0 : ρ (.tmp 23) = Value.bool false := k0
          clear k0
          refine Par.val_k fun K hK => ?_
          unfold Par.val
          (go_simp; exact hK _ _ ⟨Ext.refl _, rfl⟩)
        trivial
      intro a' w' inv
      have hX := inv.ext
      have q3 : a'.tmps.getD 3 undef = Value.pointer (some ⟨w.heap.size, 0, none⟩) := inv.done 0 _ 3 rfl rfl rfl
      have q4 : a'.tmps.getD 4 undef = Value.int IntKind.i64 (k : Int) := inv.done 1 _ 4 rfl rfl rfl
      have q5 : a'.tmps.getD 5 undef = Value.bool true := inv.done 2 _ 5 rfl rfl rfl
      have q6 : a'.tmps.getD 6 undef = Value.bool true := inv.done 3 _ 6 rfl rfl rfl
      have q7 : a'.tmps.getD 7 undef = Value.pointer (some ⟨w.heap.size, 1, none⟩) := inv.done 4 _ 7 rfl rfl rfl
      have q8 : a'.tmps.getD 8 undef = Value.slice ao n.length cap := inv.done 5 _ 8 rfl rfl rfl
      have q9 : a'.tmps.getD 9 undef = Value.int IntKind.i64 (n.length : Int) := inv.done 6 _ 9 rfl rfl rfl
      have q10 : a'.tmps.getD 10 undef = Value.pointer (some ⟨w.heap.size, 0, none⟩) := inv.done 7 _ 10 rfl rfl rfl
      have q11 : a'.tmps.getD 11 undef = Value.int IntKind.i64 (k : Int) := inv.done 8 _ 11 rfl rfl rfl
      have q12 : a'.tmps.getD 12 undef = Value.pointer (some ⟨0, k, none⟩) := inv.done 9 _ 12 rfl rfl rfl
      have q13 : a'.tmps.getD 13 undef = Value.int IntKind.i64 (m : Int) := inv.done 10 _ 13 rfl rfl rfl
      have q14 : a'.tmps.getD 14 undef = Value.bool false := inv.done 11 _ 14 rfl rfl rfl
      have q15 : a'.tmps.getD 15 undef = Value.bool false := inv.done 12 _ 15 rfl rfl rfl
      have q16 : a'.tmps.getD 16 undef = Value.bool false := inv.done 13 _ 16 rfl rfl rfl
      have q17 : a'.tmps.getD 17 undef = undef := inv.done 14 _ 17 rfl rfl rfl
      have q18 : a'.tmps.getD 18 undef = undef := inv.done 15 _ 18 rfl rfl rfl
      have q19 : a'.tmps.getD 19 undef = undef := inv.done 16 _ 19 rfl rfl rfl
      have q20 : a'.tmps.getD 20 undef = undef := inv.done 17 _ 20 rfl rfl rfl
      have q21 : a'.tmps.getD 21 undef = undef := inv.done 18 _ 21 rfl rfl rfl
      have q22 : a'.tmps.getD 22 undef = undef := inv.done 19 _ 22 rfl rfl rfl
      have q23 : a'.tmps.getD 23 undef = Value.bool false := inv.done 20 _ 23 rfl rfl rfl
      have q2 : a'.tmps.getD 2 undef = Value.bool false := inv.done 21 _ 2 rfl rfl rfl
      clear inv
      simp only [List.filterMap_cons, List.filterMap_nil, Par.putAll, Act.put, List.setIfInBounds_toArray, List.set_cons_succ, List.set_cons_zero, q3, q4, q5, q6, q7, q8, q9, q10, q11, q12, q13, q14, q15, q16, q17, q18, q19, q20, q21, q22, q23, q2]
      clear q3 q4 q5 q6 q7 q8 q9 q10 q11 q12 q13 q14 q15 q16 q17 q18 q19 q20 q21 q22 q23 q2
      clear a'
      go_wp2
      go_ret
      rw [HR.out]
      exact ⟨rfl, HE.out.trans hX⟩
  · have h1' : knownB kind = false := by simpa using h1
    have HR := hid (show rightB ⟨kind, n, text⟩ = false by simp only [rightB, h1', Bool.false_and])
    have H1 := hid h1'
    clear h1 h1'
    go_enter Tryd.func25, Tryd.ntmps25
    go_wp2_with fail
    generalize w.alloc (.cells #[.int .i64 kind, .slice ao n.length cap, .string (str text)] 62) = W at *
    have HE := hid hE1
    have C0 := hid c0
    have C1 := hid c1
    have C2 := hid c2
    clear hE1 c0 c1 c2
    refine Par.wp_region_par (l := [_, _, _, _, _, _, _, _, _, _, _, _, _, _, _, _, _, _, _, _, _, _]) rfl Ext (Par.VL [Par.EQ (Value.pointer (some ⟨w.heap.size, 0, none⟩)), Par.EQ (Value.int IntKind.i64 kind), Par.EQ (Value.bool false), Par.EQ (Value.bool false), Par.EQ (undef), Par.EQ (undef), Par.EQ (undef), Par.EQ (undef), Par.EQ (undef), Par.EQ (undef), Par.EQ (undef), Par.EQ (undef), Par.EQ (Value.bool false), Par.EQ (Value.bool false), Par.EQ (undef), Par.EQ (undef), Par.EQ (undef), Par.EQ (undef), Par.EQ (undef), Par.EQ (undef), Par.EQ (Value.bool false), Par.EQ (Value.bool false)]) (by kernel_rfl) Ext.refl (fun _ _ _ h1 h2 => Ext.trans h1 h2) (Ext.draw _) (Par.VL_stab ?_) ?_ ?_
    · simp only [List.forall_mem_cons, List.not_mem_nil, false_implies, implies_true, and_true]
      refine ⟨fun _ _ _ _ h => h, fun _ _ _ _ h => h, fun _ _ _ _ h => h, fun _ _ _ _ h => h, fun _ _ _ _ h => h, fun _ _ _ _ h => h, fun _ _ _ _ h => h, fun _ _ _ _ h => h, fun _ _ _ _ h => h, fun _ _ _ _ h => h, fun _ _ _ _ h => h, fun _ _ _ _ h => h, fun _ _ _ _ h => h, fun _ _ _ _ h => h, fun _ _ _ _ h => h, fun _ _ _ _ h => h, fun _ _ _ _ h => h, fun _ _ _ _ h => h, fun _ _ _ _ h => h, fun _ _ _ _ h => h, fun _ _ _ _ h => h, fun _ _ _ _ h => h⟩
    · refine ⟨⟨fun _ _ => trivial, fun ρ w' hX hG hk => ?_⟩, ?_⟩
      · obtain ⟨k0, -⟩ := hk
        have e0 : ρ (.tmp 1) = Value.pointer (some ⟨w.heap.size, 0, none⟩) := k0
        clear k0
        refine Par.val_k fun K hK => ?_
        unfold Par.val
        (go_simp; exact hK _ _ ⟨Ext.refl _, rfl⟩)
      refine ⟨⟨fun _ _ => trivial, fun ρ w' hX hG hk => ?_⟩, ?_⟩
      · obtain ⟨k0, -⟩ := hk
        have e0 : ρ (.tmp 3) = Value.pointer (some ⟨w.heap.size, 0, none⟩) := k0
        clear k0
        refine Par.val_k fun K hK => ?_
        unfold Par.val
        (have c := hX.cell C0.out; go_simp; exact hK _ _ ⟨Ext.refl _, rfl⟩)
      refine ⟨⟨fun _ _ => trivial, fun ρ w' hX hG hk => ?_⟩, ?_⟩
      · obtain ⟨k0, k1, -⟩ := hk
        have e0 := k0
        have e1 : ρ (.tmp 4) = Value.int IntKind.i64 kind := k1
        clear k0 k1
        refine Par.val_k fun K hK => ?_
        unfold Par.val
        refine Par.val_call Tryd.func32 (by kernel_rfl) rfl e0 ?_
        simp only [List.map_toArray, List.map_cons, List.map_nil, e1]
        refine (known_any kind _).mono ?_
        rintro e w2 ⟨rfl, rfl⟩
        exact ⟨_, rfl, hK _ _ ⟨Ext.refl _, (congrArg Value.bool H1.out)⟩⟩
      refine ⟨⟨fun _ _ => trivial, fun ρ w' hX hG hk => ?_⟩, ?_⟩
      · exact Par.val_of_run rfl ⟨Ext.refl _, hk.1⟩
      refine ⟨⟨fun _ _ u hu => .inr rfl, fun ρ w' hX hG hk => ?_⟩, ?_⟩
      · cases hG
      refine ⟨⟨fun _ _ u hu => .inr rfl, fun ρ w' hX hG hk => ?_⟩, ?_⟩
      · cases hG
      refine ⟨⟨fun _ _ u hu => .inr rfl, fun ρ w' hX hG hk => ?_⟩, ?_⟩
      · cases hG
      refine ⟨⟨fun _ _ u hu => .inr rfl, fun ρ w' hX hG hk => ?_⟩, ?_⟩
      · cases hG
      refine ⟨⟨fun _ _ u hu => .inr rfl, fun ρ w' hX hG hk => ?_⟩, ?_⟩
      · cases hG
      refine ⟨⟨fun _ _ u hu => .inr rfl, fun ρ w' hX hG hk => ?_⟩, ?_⟩
      · cases hG
      refine ⟨⟨fun _ _ u hu => .inr rfl, fun ρ w' hX hG hk => ?_⟩, ?_⟩
      · cases hG
      refine ⟨⟨fun _ _ u hu => .inr rfl, fun ρ w' hX hG hk => ?_⟩, ?_⟩
      · cases hG
      refine ⟨⟨fun _ _ => trivial, fun ρ w' hX hG hk => ?_⟩, ?_⟩
      · obtain ⟨k0, k1, k2, -⟩ := hk
        have e0 : ρ (.tmp 6) = Value.bool false := k0
        have e1 : ρ (.tmp 14) = undef := k1
        have e2 : ρ (Operand.const (Value.bool false)) = (Value.bool false) := k2
        clear k0 k1 k2
        refine Par.val_k fun K hK => ?_
        unfold Par.val
        (go_simp; exact hK _ _ ⟨Ext.refl _, rfl⟩)
      refine ⟨⟨fun _ _ => trivial, fun ρ w' hX hG hk => ?_⟩, ?_⟩
      · exact Par.val_of_run rfl ⟨Ext.refl _, hk.1⟩
      refine ⟨⟨fun _ _ u hu => .inr rfl, fun ρ w' hX hG hk => ?_⟩, ?_⟩
      · cases hG
      refine ⟨⟨fun _ _ u hu => .inr rfl, fun ρ w' hX hG hk => ?_⟩, ?_⟩
      · cases hG
      refine ⟨⟨fun _ _ u hu => .inr rfl, fun ρ w' hX hG hk => ?_⟩, ?_⟩
      · cases hG
      refine ⟨⟨fun _ _ u hu => .inr rfl, fun ρ w' hX hG hk => ?_⟩, ?_⟩
      · cases hG
      refine ⟨⟨fun _ _ u hu => .inr rfl, fun ρ w' hX hG hk => ?_⟩, ?_⟩
      · cases hG
      refine ⟨⟨fun _ _ u hu => .inr rfl, fun ρ w' hX hG hk => ?_⟩, ?_⟩
      · cases hG
      refine ⟨⟨fun _ _ => trivial, fun ρ w' hX hG hk => ?_⟩, ?_⟩
      · obtain ⟨k0, k1, k2, -⟩ := hk
        have e0 : ρ (.tmp 16) = Value.bool false := k0
        have e1 : ρ (.tmp 22) = undef := k1
        have e2 : ρ (Operand.const (Value.bool false)) = (Value.bool false) := k2
        clear k0 k1 k2
        refine Par.val_k fun K hK => ?_
        unfold Par.val
        (go_simp; exact hK _ _ ⟨Ext.refl _, rfl⟩)
      refine ⟨⟨fun _ _ => trivial, fun ρ w' hX hG hk => ?_⟩, ?_⟩
      · obtain ⟨k0, -⟩ := hk
        have e0 : ρ (.tmp 23) = Value.bool false := k0
        clear k0
        refine Par.val_k fun K hK => ?_
        unfold Par.val
        (go_simp; exact hK _ _ ⟨Ext.refl _, rfl⟩)
      trivial
    intro a' w' inv
    have hX := inv.ext
    have q3 : a'.tmps.getD 3 undef = Value.pointer (some ⟨w.heap.size, 0, none⟩) := inv.done 0 _ 3 rfl rfl rfl
    have q4 : a'.tmps.getD 4 undef = Value.int IntKind.i64 kind := inv.done 1 _ 4 rfl rfl rfl
    have q5 : a'.tmps.getD 5 undef = Value.bool false := inv.done 2 _ 5 rfl rfl rfl
    have q6 : a'.tmps.getD 6 undef = Value.bool false := inv.done 3 _ 6 rfl rfl rfl
    have q7 : a'.tmps.getD 7 undef = undef := inv.done 4 _ 7 rfl rfl rfl
    have q8 : a'.tmps.getD 8 undef = undef := inv.done 5 _ 8 rfl rfl rfl
    have q9 : a'.tmps.getD 9 undef = undef := inv.done 6 _ 9 rfl rfl rfl
    have q10 : a'.tmps.getD 10 undef = undef := inv.done 7 _ 10 rfl rfl rfl
    have q11 : a'.tmps.getD 11 undef = undef := inv.done 8 _ 11 rfl rfl rfl
    have q12 : a'.tmps.getD 12 undef = undef := inv.done 9 _ 12 rfl rfl rfl
    have q13 : a'.tmps.getD 13 undef = undef := inv.done 10 _ 13 rfl rfl rfl
    have q14 : a'.tmps.getD 14 undef = undef := inv.done 11 _ 14 rfl rfl rfl
    have q15 : a'.tmps.getD 15 undef = Value.bool false := inv.done 12 _ 15 rfl rfl rfl
    have q16 : a'.tmps.getD 16 undef = Value.bool false := inv.done 13 _ 16 rfl rfl rfl
    have q17 : a'.tmps.getD 17 undef = undef := inv.done 14 _ 17 rfl rfl rfl
    have q18 : a'.tmps.getD 18 undef = undef := inv.done 15 _ 18 rfl rfl rfl
    have q19 : a'.tmps.getD 19 undef = undef := inv.done 16 _ 19 rfl rfl rfl
    have q20 : a'.tmps.getD 20 undef = undef := inv.done 17 _ 20 rfl rfl rfl
    have q21 : a'.tmps.getD 21 undef = undef := inv.done 18 _ 21 rfl rfl rfl
    have q22 : a'.tmps.getD 22 undef = undef := inv.done 19 _ 22 rfl rfl rfl
    have q23 : a'.tmps.getD 23 undef = Value.bool false := inv.done 20 _ 23 rfl rfl rfl
    have q2 : a'.tmps.getD 2 undef = Value.bool false := inv.done 21 _ 2 rfl rfl rfl
    clear inv
    simp only [List.filterMap_cons, List.filterMap_nil, Par.putAll, Act.put, List.setIfInBounds_toArray, List.set_cons_succ, List.set_cons_zero, q3, q4, q5, q6, q7, q8, q9, q10, q11, q12, q13, q14, q15, q16, q17, q18, q19, q20, q21, q22, q23, q2]
    clear q3 q4 q5 q6 q7 q8 q9 q10 q11 q12 q13 q14 q15 q16 q17 q18 q19 q20 q21 q22 q23 q2
    clear a'
    go_wp2
    go_ret
    rw [HR.out]
    exact ⟨rfl, HE.out.trans hX⟩
end Go.Proofs.YtpbmbjdiilnaeaaDoor
