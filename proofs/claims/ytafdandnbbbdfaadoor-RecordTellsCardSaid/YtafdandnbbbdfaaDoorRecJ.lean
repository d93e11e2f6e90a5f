/- The document's records: Right, Bytes. -/
import Derived.Test.YtafdandnbbbdfaaDoorRecH
import Derived.Test.YtafdandnbbbdfaaDoorRecD
import Derived.Test.YtafdandnbbbdfaaDoorFrmD
import Derived.Lib.ConvBytes
namespace Go.Proofs.YtafdandnbbbdfaaDoor
open Go.RowKit Go.Tum Go.Tum.Crc Go.Tum.Vint

/-- '[]byte(s)'. -/
theorem run_convert_str {P : Program} (w : World) (src dst e : TypeId) (l : List UInt8) {u : TypeDesc} (hl : l.length ≤ 140737488355328)
    (hs : P.underlying src = some u) (hd : P.underlying dst = some (.slice e)) (he : P.underlying e = some (.int .u8)) :
    ∃ ao cap w', (convert src dst (.string (str l))).run P w = .ok (.slice ao l.length cap) w' ∧ Byt w' (.slice ao l.length cap) l ∧ Ext w w' := by
  have hsz := str_size l
  refine ⟨some ⟨w.heap.size, 0, none⟩, grownCap w l.length 0 e, Lib.bytesWorld w e (str l), ?_, ?_, ?_⟩
  · have := Lib.run_convert_string_bytes (P := P) w src dst e (str l) hs hd he
    rwa [hsz] at this
  · refine ⟨by simp, some ⟨w.heap.size, 0, none⟩, grownCap w l.length 0 e, rfl, grownCap_ge w l.length 0 e, grownCap_le_maxLen w l.length 0 e (by simp [maxLen]; omega), (fun h => by cases h), fun a ha j u hu => ?_⟩
    cases ha
    have e1 : (⟨w.heap.size, 0, none⟩ : Addr).add j = ⟨w.heap.size, j, none⟩ := by unfold Addr.add; split <;> simp_all
    have hj : j < l.length := by
      have := (List.getElem?_eq_some_iff.1 hu).1
      simpa using this
    rw [e1, Lib.bytesWorld_cell w e (str l) j (by rw [hsz]; exact hj)]
    rw [str_data]
    simp only [List.getElem?_map, List.getElem?_eq_getElem hj, Option.map_some, Option.some.injEq] at hu
    subst hu
    simp [bv, hj]
  · exact ⟨rfl, rfl, rfl, by rw [Lib.bytesWorld_size]; omega, fun k hk => Lib.bytesWorld_at_old w e (str l) k hk⟩
theorem val_convert {P : Program} {ρ : Operand → Value} {w w' : World} {K : Value → World → Prop} {v : Value} {src dst : TypeId} {x : Operand}
    {ds : Option Tmp} {ty : TypeId} {pos : String} {after : Array Edge} {guard : Option (Nat × Bool)}
    (h : (convert src dst (ρ x)).run P w = .ok v w') (hk : K v w') :
    Par.vUpon P K ((execOp ρ { dst := ds, op := .convert src dst x, type := ty, pos, after, guard }).run P w) := by
  unfold execOp
  simp only [Sem.run_bind, Sem.run_pure, h, Result.andThen_ok]
  exact hk

theorem rright5_any (r : Rc) (v : Value) (w : World) (hv : Vec uv w v r.n) :
    Calls Tryd.prog 14 #[rv r v] w fun e w' => e = .returned (.bool (rightB r)) ∧ Ext w w' := by
  obtain ⟨ao, cap, rfl, -⟩ := hv.open
  obtain ⟨kind, n, text⟩ := r
  clear hv
  have hE1 := Ext.alloc w (.cells #[.int .i64 kind, .slice ao n.length cap, .string (str text)] 30)
  obtain ⟨c0, c1, c2⟩ := blk3 (heap_alloc_new w (.cells #[.int .i64 kind, .slice ao n.length cap, .string (str text)] 30))
  have hsz := str_size text
  by_cases h1 : knownB kind = true
  · obtain ⟨m, hm⟩ : ∃ m, many kind = m := ⟨_, rfl⟩
    have HRM := hid (rmany_yes h1 hm)
    have hm0 : decide ((0 : Int) ≤ (m : Int)) = true := by simp
    by_cases h2 : n.length = m
    · have HR := hid (show rightB ⟨kind, n, text⟩ = textB kind text.length by simp [rightB, h1, hm, h2])
      have e2 : ((n.length : Int) == (m : Int)) = true := by rw [h2]; simp
      clear h1 h2 hm
      go_enter Tryd.func14, Tryd.ntmps14
      go_wp2_with fail
      generalize w.alloc (.cells #[.int .i64 kind, .slice ao n.length cap, .string (str text)] 30) = W at *
      have HE := hid hE1
      have C0 := hid c0
      have C1 := hid c1
      have C2 := hid c2
      clear hE1 c0 c1 c2
      refine Par.wp_region_par (l := [_, _, _, _, _, _, _, _, _, _, _, _, _, _, _, _, _, _, _, _, _, _]) rfl Ext (Par.VL [Par.EQ (Value.pointer (some ⟨w.heap.size, 0, none⟩)), Par.EQ (Value.int IntKind.i64 kind), Par.EQ (Value.int IntKind.i64 (m : Int)), Par.EQ (Value.bool true), Par.EQ (Value.bool true), Par.EQ (Value.pointer (some ⟨w.heap.size, 1, none⟩)), Par.EQ (Value.slice ao n.length cap), Par.EQ (Value.int IntKind.i64 (n.length : Int)), Par.EQ (Value.pointer (some ⟨w.heap.size, 0, none⟩)), Par.EQ (Value.int IntKind.i64 kind), Par.EQ (Value.int IntKind.i64 (m : Int)), Par.EQ (Value.bool true), Par.EQ (Value.bool true), Par.EQ (Value.bool true), Par.EQ (Value.pointer (some ⟨w.heap.size, 0, none⟩)), Par.EQ (Value.int IntKind.i64 kind), Par.EQ (Value.pointer (some ⟨w.heap.size, 2, none⟩)), Par.EQ (Value.string (str text)), Par.EQ (Value.int IntKind.i64 (text.length : Int)), Par.EQ (Value.bool (textB kind text.length)), Par.EQ (Value.bool (textB kind text.length)), Par.EQ (Value.bool (textB kind text.length))]) (by kernel_rfl) Ext.refl (fun _ _ _ h1 h2 => Ext.trans h1 h2) (Ext.draw _) (Par.VL_stab ?_) ?_ ?_
      · simp only [List.forall_mem_cons, List.not_mem_nil, false_implies, implies_true, and_true]
        refine ⟨fun _ _ _ _ h => h, fun _ _ _ _ h => h, fun _ _ _ _ h => h, fun _ _ _ _ h => h, fun _ _ _ _ h => h, fun _ _ _ _ h => h, fun _ _ _ _ h => h, fun _ _ _ _ h => h, fun _ _ _ _ h => h, fun _ _ _ _ h => h, fun _ _ _ _ h => h, fun _ _ _ _ h => h, fun _ _ _ _ h => h, fun _ _ _ _ h => h, fun _ _ _ _ h => h, fun _ _ _ _ h => h, fun _ _ _ _ h => h, fun _ _ _ _ h => h, fun _ _ _ _ h => h, fun _ _ _ _ h => h, fun _ _ _ _ h => h, fun _ _ _ _ h => h⟩
      · refine ⟨⟨fun _ _ => trivial, fun ρ w' hX hG hk => ?_⟩, ?_⟩
        · obtain ⟨k0, -⟩ := hk
          have e0 : ρ (.tmp 1) = Value.pointer (some ⟨w.heap.size, 0, none⟩) := k0
          clear k0
          refine Par.val_k fun K hK => ?_
          unfold Par.val
          (go_simp; exact hK _ _ ⟨Ext.refl _, rfl⟩)
        refine ⟨⟨fun _ _ => trivial, fun ρ w' hX hG hk => ?_⟩, ?_⟩
        · obtain ⟨k0, -⟩ := hk
          have e0 : ρ (.tmp 3) = Value.pointer (some ⟨w.heap.size, 0, none⟩) := k0
          clear k0
          refine Par.val_k fun K hK => ?_
          unfold Par.val
          (have c := hX.cell C0.out; go_simp; exact hK _ _ ⟨Ext.refl _, rfl⟩)
        refine ⟨⟨fun _ _ => trivial, fun ρ w' hX hG hk => ?_⟩, ?_⟩
        · obtain ⟨k0, k1, -⟩ := hk
          have e0 := k0
          have e1 : ρ (.tmp 4) = Value.int IntKind.i64 kind := k1
          clear k0 k1
          refine Par.val_k fun K hK => ?_
          unfold Par.val
          refine Par.val_call Tryd.func31 (by kernel_rfl) rfl e0 ?_
          simp only [List.map_toArray, List.map_cons, List.map_nil, e1]
          refine (rmany_any kind _).mono ?_
          rintro e w2 ⟨rfl, h2⟩
          exact ⟨_, rfl, hK _ _ ⟨h2, (congrArg (Value.int IntKind.i64) HRM.out)⟩⟩
        refine ⟨⟨fun _ _ => trivial, fun ρ w' hX hG hk => ?_⟩, ?_⟩
        · obtain ⟨k0, k1, -⟩ := hk
          have e0 : ρ (.tmp 5) = Value.int IntKind.i64 (m : Int) := k0
          have e1 : ρ (Operand.const (Value.int IntKind.i64 0)) = (Value.int IntKind.i64 0) := k1
          clear k0 k1
          refine Par.val_k fun K hK => ?_
          unfold Par.val
          (go_simp; exact hK _ _ ⟨Ext.refl _, rfl⟩)
        refine ⟨⟨fun _ _ => trivial, fun ρ w' hX hG hk => ?_⟩, ?_⟩
        · exact Par.val_of_run rfl ⟨Ext.refl _, hk.1⟩
        refine ⟨⟨fun _ _ u hu => .inl hu, fun ρ w' hX hG hk => ?_⟩, ?_⟩
        · obtain ⟨k0, -⟩ := hk
          have e0 : ρ (.tmp 1) = Value.pointer (some ⟨w.heap.size, 0, none⟩) := k0
          clear k0
          refine Par.val_k fun K hK => ?_
          unfold Par.val
          (go_simp; exact hK _ _ ⟨Ext.refl _, rfl⟩)
        refine ⟨⟨fun _ _ u hu => .inl hu, fun ρ w' hX hG hk => ?_⟩, ?_⟩
        · obtain ⟨k0, -⟩ := hk
          have e0 : ρ (.tmp 8) = Value.pointer (some ⟨w.heap.size, 1, none⟩) := k0
          clear k0
          refine Par.val_k fun K hK => ?_
          unfold Par.val
          (have c := hX.cell C1.out; go_simp; exact hK _ _ ⟨Ext.refl _, rfl⟩)
        refine ⟨⟨fun _ _ u hu => .inl hu, fun ρ w' hX hG hk => ?_⟩, ?_⟩
        · obtain ⟨k0, -⟩ := hk
          have e0 : ρ (.tmp 9) = Value.slice ao n.length cap := k0
          clear k0
          refine Par.val_k fun K hK => ?_
          unfold Par.val
          (go_simp; exact hK _ _ ⟨Ext.refl _, rfl⟩)
        refine ⟨⟨fun _ _ u hu => .inl hu, fun ρ w' hX hG hk => ?_⟩, ?_⟩
        · obtain ⟨k0, -⟩ := hk
          have e0 : ρ (.tmp 1) = Value.pointer (some ⟨w.heap.size, 0, none⟩) := k0
          clear k0
          refine Par.val_k fun K hK => ?_
          unfold Par.val
          (go_simp; exact hK _ _ ⟨Ext.refl _, rfl⟩)
        refine ⟨⟨fun _ _ u hu => .inl hu, fun ρ w' hX hG hk => ?_⟩, ?_⟩
        · obtain ⟨k0, -⟩ := hk
          have e0 : ρ (.tmp 11) = Value.pointer (some ⟨w.heap.size, 0, none⟩) := k0
          clear k0
          refine Par.val_k fun K hK => ?_
          unfold Par.val
          (have c := hX.cell C0.out; go_simp; exact hK _ _ ⟨Ext.refl _, rfl⟩)
        refine ⟨⟨fun _ _ u hu => .inl hu, fun ρ w' hX hG hk => ?_⟩, ?_⟩
        · obtain ⟨k0, k1, -⟩ := hk
          have e0 := k0
          have e1 : ρ (.tmp 12) = Value.int IntKind.i64 kind := k1
          clear k0 k1
          refine Par.val_k fun K hK => ?_
          unfold Par.val
          refine Par.val_call Tryd.func31 (by kernel_rfl) rfl e0 ?_
          simp only [List.map_toArray, List.map_cons, List.map_nil, e1]
          refine (rmany_any kind _).mono ?_
          rintro e w2 ⟨rfl, h2⟩
          exact ⟨_, rfl, hK _ _ ⟨h2, (congrArg (Value.int IntKind.i64) HRM.out)⟩⟩
        refine ⟨⟨fun _ _ u hu => .inl hu, fun ρ w' hX hG hk => ?_⟩, ?_⟩
        · obtain ⟨k0, k1, -⟩ := hk
          have e0 : ρ (.tmp 10) = Value.int IntKind.i64 (n.length : Int) := k0
          have e1 : ρ (.tmp 13) = Value.int IntKind.i64 (m : Int) := k1
          clear k0 k1
          refine Par.val_k fun K hK => ?_
          unfold Par.val
          (go_simp; exact hK _ _ ⟨Ext.refl _, rfl⟩)
        refine ⟨⟨fun _ _ => trivial, fun ρ w' hX hG hk => ?_⟩, ?_⟩
        · obtain ⟨k0, k1, k2, -⟩ := hk
          have e0 : ρ (.tmp 7) = Value.bool true := k0
          have e1 : ρ (.tmp 14) = Value.bool true := k1
          have e2 : ρ (Operand.const (Value.bool false)) = (Value.bool false) := k2
          clear k0 k1 k2
          refine Par.val_k fun K hK => ?_
          unfold Par.val
          (go_simp; exact hK _ _ ⟨Ext.refl _, rfl⟩)
        refine ⟨⟨fun _ _ => trivial, fun ρ w' hX hG hk => ?_⟩, ?_⟩
        · exact Par.val_of_run rfl ⟨Ext.refl _, hk.1⟩
        refine ⟨⟨fun _ _ u hu => .inl hu, fun ρ w' hX hG hk => ?_⟩, ?_⟩
        · obtain ⟨k0, -⟩ := hk
          have e0 : ρ (.tmp 1) = Value.pointer (some ⟨w.heap.size, 0, none⟩) := k0
          clear k0
          refine Par.val_k fun K hK => ?_
          unfold Par.val
          (go_simp; exact hK _ _ ⟨Ext.refl _, rfl⟩)
        refine ⟨⟨fun _ _ u hu => .inl hu, fun ρ w' hX hG hk => ?_⟩, ?_⟩
        · obtain ⟨k0, -⟩ := hk
          have e0 : ρ (.tmp 17) = Value.pointer (some ⟨w.heap.size, 0, none⟩) := k0
          clear k0
          refine Par.val_k fun K hK => ?_
          unfold Par.val
          (have c := hX.cell C0.out; go_simp; exact hK _ _ ⟨Ext.refl _, rfl⟩)
        refine ⟨⟨fun _ _ u hu => .inl hu, fun ρ w' hX hG hk => ?_⟩, ?_⟩
        · obtain ⟨k0, -⟩ := hk
          have e0 : ρ (.tmp 1) = Value.pointer (some ⟨w.heap.size, 0, none⟩) := k0
          clear k0
          refine Par.val_k fun K hK => ?_
          unfold Par.val
          (go_simp; exact hK _ _ ⟨Ext.refl _, rfl⟩)
        refine ⟨⟨fun _ _ u hu => .inl hu, fun ρ w' hX hG hk => ?_⟩, ?_⟩
        · obtain ⟨k0, -⟩ := hk
          have e0 : ρ (.tmp 19) = Value.pointer (some ⟨w.heap.size, 2, none⟩) := k0
          clear k0
          refine Par.val_k fun K hK => ?_
          unfold Par.val
          (have c := hX.cell C2.out; go_simp; exact hK _ _ ⟨Ext.refl _, rfl⟩)
        refine ⟨⟨fun _ _ u hu => .inl hu, fun ρ w' hX hG hk => ?_⟩, ?_⟩
        · obtain ⟨k0, -⟩ := hk
          have e0 : ρ (.tmp 20) = Value.string (str text) := k0
          clear k0
          refine Par.val_k fun K hK => ?_
          unfold Par.val
          (go_simp; exact hK _ _ ⟨Ext.refl _, rfl⟩)
        refine ⟨⟨fun _ _ u hu => .inl hu, fun ρ w' hX hG hk => ?_⟩, ?_⟩
        · obtain ⟨k0, k1, k2, -⟩ := hk
          have e0 := k0
          have e1 : ρ (.tmp 18) = Value.int IntKind.i64 kind := k1
          have e2 : ρ (.tmp 21) = Value.int IntKind.i64 (text.length : Int) := k2
          clear k0 k1 k2
          refine Par.val_k fun K hK => ?_
          unfold Par.val
          refine Par.val_call Tryd.func33 (by kernel_rfl) rfl e0 ?_
          simp only [List.map_toArray, List.map_cons, List.map_nil, e1, e2]
          refine (rtexts_any kind text.length _).mono ?_
          rintro e w2 ⟨rfl, rfl⟩
          exact ⟨_, rfl, hK _ _ ⟨Ext.refl _, (rfl)⟩⟩
        refine ⟨⟨fun _ _ => trivial, fun ρ w' hX hG hk => ?_⟩, ?_⟩
        · obtain ⟨k0, k1, k2, -⟩ := hk
          have e0 : ρ (.tmp 16) = Value.bool true := k0
          have e1 : ρ (.tmp 22) = Value.bool (textB kind text.length) := k1
          have e2 : ρ (Operand.const (Value.bool false)) = (Value.bool false) := k2
          clear k0 k1 k2
          refine Par.val_k fun K hK => ?_
          unfold Par.val
          (go_simp; exact hK _ _ ⟨Ext.refl _, rfl⟩)
        refine ⟨⟨fun _ _ => trivial, fun ρ w' hX hG hk => ?_⟩, ?_⟩
        · obtain ⟨k0, -⟩ := hk
          have e0 : ρ (.tmp 23) = Value.bool (textB kind text.length) := k0
          clear k0
          refine Par.val_k fun K hK => ?_
          unfold Par.val
          (go_simp; exact hK _ _ ⟨Ext.refl _, rfl⟩)
        trivial
      intro a' w' inv
      have hX := inv.ext
      have q3 : a'.tmps.getD 3 undef = Value.pointer (some ⟨w.heap.size, 0, none⟩) := inv.done 0 _ 3 rfl rfl rfl
      have q4 : a'.tmps.getD 4 undef = Value.int IntKind.i64 kind := inv.done 1 _ 4 rfl rfl rfl
      have q5 : a'.tmps.getD 5 undef = Value.int IntKind.i64 (m : Int) := inv.done 2 _ 5 rfl rfl rfl
      have q6 : a'.tmps.getD 6 undef = Value.bool true := inv.done 3 _ 6 rfl rfl rfl
      have q7 : a'.tmps.getD 7 undef = Value.bool true := inv.done 4 _ 7 rfl rfl rfl
      have q8 : a'.tmps.getD 8 undef = Value.pointer (some ⟨w.heap.size, 1, none⟩) := inv.done 5 _ 8 rfl rfl rfl
      have q9 : a'.tmps.getD 9 undef = Value.slice ao n.length cap := inv.done 6 _ 9 rfl rfl rfl
      have q10 : a'.tmps.getD 10 undef = Value.int IntKind.i64 (n.length : Int) := inv.done 7 _ 10 rfl rfl rfl
      have q11 : a'.tmps.getD 11 undef = Value.pointer (some ⟨w.heap.size, 0, none⟩) := inv.done 8 _ 11 rfl rfl rfl
      have q12 : a'.tmps.getD 12 undef = Value.int IntKind.i64 kind := inv.done 9 _ 12 rfl rfl rfl
      have q13 : a'.tmps.getD 13 undef = Value.int IntKind.i64 (m : Int) := inv.done 10 _ 13 rfl rfl rfl
      have q14 : a'.tmps.getD 14 undef = Value.bool true := inv.done 11 _ 14 rfl rfl rfl
      have q15 : a'.tmps.getD 15 undef = Value.bool true := inv.done 12 _ 15 rfl rfl rfl
      have q16 : a'.tmps.getD 16 undef = Value.bool true := inv.done 13 _ 16 rfl rfl rfl
      have q17 : a'.tmps.getD 17 undef = Value.pointer (some ⟨w.heap.size, 0, none⟩) := inv.done 14 _ 17 rfl rfl rfl
      have q18 : a'.tmps.getD 18 undef = Value.int IntKind.i64 kind := inv.done 15 _ 18 rfl rfl rfl
      have q19 : a'.tmps.getD 19 undef = Value.pointer (some ⟨w.heap.size, 2, none⟩) := inv.done 16 _ 19 rfl rfl rfl
      have q20 : a'.tmps.getD 20 undef = Value.string (str text) := inv.done 17 _ 20 rfl rfl rfl
      have q21 : a'.tmps.getD 21 undef = Value.int IntKind.i64 (text.length : Int) := inv.done 18 _ 21 rfl rfl rfl
      have q22 : a'.tmps.getD 22 undef = Value.bool (textB kind text.length) := inv.done 19 _ 22 rfl rfl rfl
      have q23 : a'.tmps.getD 23 undef = Value.bool (textB kind text.length) := inv.done 20 _ 23 rfl rfl rfl
      have q2 : a'.tmps.getD 2 undef = Value.bool (textB kind text.length) := inv.done 21 _ 2 rfl rfl rfl
      clear inv
      simp only [List.filterMap_cons, List.filterMap_nil, Par.putAll, Act.put, List.setIfInBounds_toArray, List.set_cons_succ, List.set_cons_zero, q3, q4, q5, q6, q7, q8, q9, q10, q11, q12, q13, q14, q15, q16, q17, q18, q19, q20, q21, q22, q23, q2]
      clear q3 q4 q5 q6 q7 q8 q9 q10 q11 q12 q13 q14 q15 q16 q17 q18 q19 q20 q21 q22 q23 q2
      clear a'
      go_wp2
      go_ret
      rw [HR.out]
      exact ⟨rfl, HE.out.trans hX⟩
    · have HR := hid (show rightB ⟨kind, n, text⟩ = false by
        have h3 : decide (n.length = many kind) = false := by simp [hm, h2]
        simp only [rightB, h3, Bool.and_false, Bool.false_and])
      have e2 : ((n.length : Int) == (m : Int)) = false := by
        rw [beq_eq_false_iff_ne]; omega
      clear h1 h2 hm
      go_enter Tryd.func14, Tryd.ntmps14
      go_wp2_with fail
      generalize w.alloc (.cells #[.int .i64 kind, .slice ao n.length cap, .string (str text)] 30) = W at *
      have HE := hid hE1
      have C0 := hid c0
      have C1 := hid c1
      clear hE1 c0 c1 c2
      refine Par.wp_region_par (l := [_, _, _, _, _, _, _, _, _, _, _, _, _, _, _, _, _, _, _, _, _, _]) rfl Ext (Par.VL [Par.EQ (Value.pointer (some ⟨w.heap.size, 0, none⟩)), Par.EQ (Value.int IntKind.i64 kind), Par.EQ (Value.int IntKind.i64 (m : Int)), Par.EQ (Value.bool true), Par.EQ (Value.bool true), Par.EQ (Value.pointer (some ⟨w.heap.size, 1, none⟩)), Par.EQ (Value.slice ao n.length cap), Par.EQ (Value.int IntKind.i64 (n.length : Int)), Par.EQ (Value.pointer (some ⟨w.heap.size, 0, none⟩)), Par.EQ (Value.int IntKind.i64 kind), Par.EQ (Value.int IntKind.i64 (m : Int)), Par.EQ (Value.bool false), Par.EQ (Value.bool false), Par.EQ (Value.bool false), Par.EQ (undef), Par.EQ (undef), Par.EQ (undef), Par.EQ (undef), Par.EQ (undef), Par.EQ (undef), Par.EQ (Value.bool false), Par.EQ (Value.bool false)]) (by kernel_rfl) Ext.refl (fun _ _ _ h1 h2 => Ext.trans h1 h2) (Ext.draw _) (Par.VL_stab ?_) ?_ ?_
      · simp only [List.forall_mem_cons, List.not_mem_nil, false_implies, implies_true, and_true]
        refine ⟨fun _ _ _ _ h => h, fun _ _ _ _ h => h, fun _ _ _ _ h => h, fun _ _ _ _ h => h, fun _ _ _ _ h => h, fun _ _ _ _ h => h, fun _ _ _ _ h => h, fun _ _ _ _ h => h, fun _ _ _ _ h => h, fun _ _ _ _ h => h, fun _ _ _ _ h => h, fun _ _ _ _ h => h, fun _ _ _ _ h => h, fun _ _ _ _ h => h, fun _ _ _ _ h => h, fun _ _ _ _ h => h, fun _ _ _ _ h => h, fun _ _ _ _ h => h, fun _ _ _ _ h => h, fun _ _ _ _ h => h, fun _ _ _ _ h => h, fun _ _ _ _ h => h⟩
      · refine ⟨⟨fun _ _ => trivial, fun ρ w' hX hG hk => ?_⟩, ?_⟩
        · obtain ⟨k0, -⟩ := hk
          have e0 : ρ (.tmp 1) = Value.pointer (some ⟨w.heap.size, 0, none⟩) := k0
          clear k0
          refine Par.val_k fun K hK => ?_
          unfold Par.val
          (go_simp; exact hK _ _ ⟨Ext.refl _, rfl⟩)
        refine ⟨⟨fun _ _ => trivial, fun ρ w' hX hG hk => ?_⟩, ?_⟩
        · obtain ⟨k0, -⟩ := hk
          have e0 : ρ (.tmp 3) = Value.pointer (some ⟨w.heap.size, 0, none⟩) := k0
          clear k0
          refine Par.val_k fun K hK => ?_
          unfold Par.val
          (have c := hX.cell C0.out; go_simp; exact hK _ _ ⟨Ext.refl _, rfl⟩)
        refine ⟨⟨fun _ _ => trivial, fun ρ w' hX hG hk => ?_⟩, ?_⟩
        · obtain ⟨k0, k1, -⟩ := hk
          have e0 := k0
          have e1 : ρ (.tmp 4) = Value.int IntKind.i64 kind := k1
          clear k0 k1
          refine Par.val_k fun K hK => ?_
          unfold Par.val
          refine Par.val_call Tryd.func31 (by kernel_rfl) rfl e0 ?_
          simp only [List.map_toArray, List.map_cons, List.map_nil, e1]
          refine (rmany_any kind _).mono ?_
          rintro e w2 ⟨rfl, h2⟩
          exact ⟨_, rfl, hK _ _ ⟨h2, (congrArg (Value.int IntKind.i64) HRM.out)⟩⟩
        refine ⟨⟨fun _ _ => trivial, fun ρ w' hX hG hk => ?_⟩, ?_⟩
        · obtain ⟨k0, k1, -⟩ := hk
          have e0 : ρ (.tmp 5) = Value.int IntKind.i64 (m : Int) := k0
          have e1 : ρ (Operand.const (Value.int IntKind.i64 0)) = (Value.int IntKind.i64 0) := k1
          clear k0 k1
          refine Par.val_k fun K hK => ?_
          unfold Par.val
          (go_simp; exact hK _ _ ⟨Ext.refl _, rfl⟩)
        refine ⟨⟨fun _ _ => trivial, fun ρ w' hX hG hk => ?_⟩, ?_⟩
        · exact Par.val_of_run rfl ⟨Ext.refl _, hk.1⟩
        refine ⟨⟨fun _ _ u hu => .inl hu, fun ρ w' hX hG hk => ?_⟩, ?_⟩
        · obtain ⟨k0, -⟩ := hk
          have e0 : ρ (.tmp 1) = Value.pointer (some ⟨w.heap.size, 0, none⟩) := k0
          clear k0
          refine Par.val_k fun K hK => ?_
          unfold Par.val
          (go_simp; exact hK _ _ ⟨Ext.refl _, rfl⟩)
        refine ⟨⟨fun _ _ u hu => .inl hu, fun ρ w' hX hG hk => ?_⟩, ?_⟩
        · obtain ⟨k0, -⟩ := hk
          have e0 : ρ (.tmp 8) = Value.pointer (some ⟨w.heap.size, 1, none⟩) := k0
          clear k0
          refine Par.val_k fun K hK => ?_
          unfold Par.val
          (have c := hX.cell C1.out; go_simp; exact hK _ _ ⟨Ext.refl _, rfl⟩)
        refine ⟨⟨fun _ _ u hu => .inl hu, fun ρ w' hX hG hk => ?_⟩, ?_⟩
        · obtain ⟨k0, -⟩ := hk
          have e0 : ρ (.tmp 9) = Value.slice ao n.length cap := k0
          clear k0
          refine Par.val_k fun K hK => ?_
          unfold Par.val
          (go_simp; exact hK _ _ ⟨Ext.refl _, rfl⟩)
        refine ⟨⟨fun _ _ u hu => .inl hu, fun ρ w' hX hG hk => ?_⟩, ?_⟩
        · obtain ⟨k0, -⟩ := hk
          have e0 : ρ (.tmp 1) = Value.pointer (some ⟨w.heap.size, 0, none⟩) := k0
          clear k0
          refine Par.val_k fun K hK => ?_
          unfold Par.val
          (go_simp; exact hK _ _ ⟨Ext.refl _, rfl⟩)
        refine ⟨⟨fun _ _ u hu => .inl hu, fun ρ w' hX hG hk => ?_⟩, ?_⟩
        · obtain ⟨k0, -⟩ := hk
          have e0 : ρ (.tmp 11) = Value.pointer (some ⟨w.heap.size, 0, none⟩) := k0
          clear k0
          refine Par.val_k fun K hK => ?_
          unfold Par.val
          (have c := hX.cell C0.out; go_simp; exact hK _ _ ⟨Ext.refl _, rfl⟩)
        refine ⟨⟨fun _ _ u hu => .inl hu, fun ρ w' hX hG hk => ?_⟩, ?_⟩
        · obtain ⟨k0, k1, -⟩ := hk
          have e0 := k0
          have e1 : ρ (.tmp 12) = Value.int IntKind.i64 kind := k1
          clear k0 k1
          refine Par.val_k fun K hK => ?_
          unfold Par.val
          refine Par.val_call Tryd.func31 (by kernel_rfl) rfl e0 ?_
          simp only [List.map_toArray, List.map_cons, List.map_nil, e1]
          refine (rmany_any kind _).mono ?_
          rintro e w2 ⟨rfl, h2⟩
          exact ⟨_, rfl, hK _ _ ⟨h2, (congrArg (Value.int IntKind.i64) HRM.out)⟩⟩
        refine ⟨⟨fun _ _ u hu => .inl hu, fun ρ w' hX hG hk => ?_⟩, ?_⟩
        · obtain ⟨k0, k1, -⟩ := hk
          have e0 : ρ (.tmp 10) = Value.int IntKind.i64 (n.length : Int) := k0
          have e1 : ρ (.tmp 13) = Value.int IntKind.i64 (m : Int) := k1
          clear k0 k1
          refine Par.val_k fun K hK => ?_
          unfold Par.val
          (go_simp; exact hK _ _ ⟨Ext.refl _, rfl⟩)
        refine ⟨⟨fun _ _ => trivial, fun ρ w' hX hG hk => ?_⟩, ?_⟩
        · obtain ⟨k0, k1, k2, -⟩ := hk
          have e0 : ρ (.tmp 7) = Value.bool true := k0
          have e1 : ρ (.tmp 14) = Value.bool false := k1
          have e2 : ρ (Operand.const (Value.bool false)) = (Value.bool false) := k2
          clear k0 k1 k2
          refine Par.val_k fun K hK => ?_
          unfold Par.val
          (go_simp; exact hK _ _ ⟨Ext.refl _, rfl⟩)
        refine ⟨⟨fun _ _ => trivial, fun ρ w' hX hG hk => ?_⟩, ?_⟩
        · exact Par.val_of_run rfl ⟨Ext.refl _, hk.1⟩
        refine ⟨⟨fun _ _ u hu => .inr rfl, fun ρ w' hX hG hk => ?_⟩, ?_⟩
        · cases hG
        refine ⟨⟨fun _ _ u hu => .inr rfl, fun ρ w' hX hG hk => ?_⟩, ?_⟩
        · cases hG
        refine ⟨⟨fun _ _ u hu => .inr rfl, fun ρ w' hX hG hk => ?_⟩, ?_⟩
        · cases hG
        refine ⟨⟨fun _ _ u hu => .inr rfl, fun ρ w' hX hG hk => ?_⟩, ?_⟩
        · cases hG
        refine ⟨⟨fun _ _ u hu => .inr rfl, fun ρ w' hX hG hk => ?_⟩, ?_⟩
        · cases hG
        refine ⟨⟨fun _ _ u hu => .inr rfl, fun ρ w' hX hG hk => ?_⟩, ?_⟩
        · cases hG
        refine ⟨⟨fun _ _ => trivial, fun ρ w' hX hG hk => ?_⟩, ?_⟩
        · obtain ⟨k0, k1, k2, -⟩ := hk
          have e0 : ρ (.tmp 16) = Value.bool false := k0
          have e1 : ρ (.tmp 22) = undef := k1
          have e2 : ρ (Operand.const (Value.bool false)) = (Value.bool false) := k2
          clear k0 k1 k2
          refine Par.val_k fun K hK => ?_
          unfold Par.val
          (go_simp; exact hK _ _ ⟨Ext.refl _, rfl⟩)
        refine ⟨⟨fun _ _ => trivial, fun ρ w' hX hG hk => ?_⟩, ?_⟩
        · obtain ⟨k0, -⟩ := hk
          have e0 : ρ (.tmp 23) = Value.bool false := k0
          clear k0
          refine Par.val_k fun K hK => ?_
          unfold Par.val
          (go_simp; exact hK _ _ ⟨Ext.refl _, rfl⟩)
        trivial
      intro a' w' inv
      have hX := inv.ext
      have q3 : a'.tmps.getD 3 undef = Value.pointer (some ⟨w.heap.size, 0, none⟩) := inv.done 0 _ 3 rfl rfl rfl
      have q4 : a'.tmps.getD 4 undef = Value.int IntKind.i64 kind := inv.done 1 _ 4 rfl rfl rfl
      have q5 : a'.tmps.getD 5 undef = Value.int IntKind.i64 (m : Int) := inv.done 2 _ 5 rfl rfl rfl
      have q6 : a'.tmps.getD 6 undef = Value.bool true := inv.done 3 _ 6 rfl rfl rfl
      have q7 : a'.tmps.getD 7 undef = Value.bool true := inv.done 4 _ 7 rfl rfl rfl
      have q8 : a'.tmps.getD 8 undef = Value.pointer (some ⟨w.heap.size, 1, none⟩) := inv.done 5 _ 8 rfl rfl rfl
      have q9 : a'.tmps.getD 9 undef = Value.slice ao n.length cap := inv.done 6 _ 9 rfl rfl rfl
      have q10 : a'.tmps.getD 10 undef = Value.int IntKind.i64 (n.length : Int) := inv.done 7 _ 10 rfl rfl rfl
      have q11 : a'.tmps.getD 11 undef = Value.pointer (some ⟨w.heap.size, 0, none⟩) := inv.done 8 _ 11 rfl rfl rfl
      have q12 : a'.tmps.getD 12 undef = Value.int IntKind.i64 kind := inv.done 9 _ 12 rfl rfl rfl
      have q13 : a'.tmps.getD 13 undef = Value.int IntKind.i64 (m : Int) := inv.done 10 _ 13 rfl rfl rfl
      have q14 : a'.tmps.getD 14 undef = Value.bool false := inv.done 11 _ 14 rfl rfl rfl
      have q15 : a'.tmps.getD 15 undef = Value.bool false := inv.done 12 _ 15 rfl rfl rfl
      have q16 : a'.tmps.getD 16 undef = Value.bool false := inv.done 13 _ 16 rfl rfl rfl
      have q17 : a'.tmps.getD 17 undef = undef := inv.done 14 _ 17 rfl rfl rfl
      have q18 : a'.tmps.getD 18 undef = undef := inv.done 15 _ 18 rfl rfl rfl
      have q19 : a'.tmps.getD 19 undef = undef := inv.done 16 _ 19 rfl rfl rfl
      have q20 : a'.tmps.getD 20 undef = undef := inv.done 17 _ 20 rfl rfl rfl
      have q21 : a'.tmps.getD 21 undef = undef := inv.done 18 _ 21 rfl rfl rfl
      have q22 : a'.tmps.getD 22 undef = undef := inv.done 19 _ 22 rfl rfl rfl
      have q23 : a'.tmps.getD 23 undef = Value.bool false := inv.done 20 _ 23 rfl rfl rfl
      have q2 : a'.tmps.getD 2 undef = Value.bool false := inv.done 21 _ 2 rfl rfl rfl
      clear inv
      simp only [List.filterMap_cons, List.filterMap_nil, Par.putAll, Act.put, List.setIfInBounds_toArray, List.set_cons_succ, List.set_cons_zero, q3, q4, q5, q6, q7, q8, q9, q10, q11, q12, q13, q14, q15, q16, q17, q18, q19, q20, q21, q22, q23, q2]
      clear q3 q4 q5 q6 q7 q8 q9 q10 q11 q12 q13 q14 q15 q16 q17 q18 q19 q20 q21 q22 q23 q2
      clear a'
      go_wp2
      go_ret
      rw [HR.out]
      exact ⟨rfl, HE.out.trans hX⟩
  · replace h1 : knownB kind = false := by simpa using h1
    have HR := hid (show rightB ⟨kind, n, text⟩ = false by simp only [rightB, h1, Bool.false_and])
    have HRM := hid (rmany_no h1)
    clear h1
    go_enter Tryd.func14, Tryd.ntmps14
    go_wp2_with fail
    generalize w.alloc (.cells #[.int .i64 kind, .slice ao n.length cap, .string (str text)] 30) = W at *
    have HE := hid hE1
    have C0 := hid c0
    clear hE1 c0 c1 c2
    refine Par.wp_region_par (l := [_, _, _, _, _, _, _, _, _, _, _, _, _, _, _, _, _, _, _, _, _, _]) rfl Ext (Par.VL [Par.EQ (Value.pointer (some ⟨w.heap.size, 0, none⟩)), Par.EQ (Value.int IntKind.i64 kind), Par.EQ (Value.int IntKind.i64 (-1)), Par.EQ (Value.bool false), Par.EQ (Value.bool false), Par.EQ (undef), Par.EQ (undef), Par.EQ (undef), Par.EQ (undef), Par.EQ (undef), Par.EQ (undef), Par.EQ (undef), Par.EQ (Value.bool false), Par.EQ (Value.bool false), Par.EQ (undef), Par.EQ (undef), Par.EQ (undef), Par.EQ (undef), Par.EQ (undef), Par.EQ (undef), Par.EQ (Value.bool false), Par.EQ (Value.bool false)]) (by kernel_rfl) Ext.refl (fun _ _ _ h1 h2 => Ext.trans h1 h2) (Ext.draw _) (Par.VL_stab ?_) ?_ ?_
    · simp only [List.forall_mem_cons, List.not_mem_nil, false_implies, implies_true, and_true]
      refine ⟨fun _ _ _ _ h => h, fun _ _ _ _ h => h, fun _ _ _ _ h => h, fun _ _ _ _ h => h, fun _ _ _ _ h => h, fun _ _ _ _ h => h, fun _ _ _ _ h => h, fun _ _ _ _ h => h, fun _ _ _ _ h => h, fun _ _ _ _ h => h, fun _ _ _ _ h => h, fun _ _ _ _ h => h, fun _ _ _ _ h => h, fun _ _ _ _ h => h, fun _ _ _ _ h => h, fun _ _ _ _ h => h, fun _ _ _ _ h => h, fun _ _ _ _ h => h, fun _ _ _ _ h => h, fun _ _ _ _ h => h, fun _ _ _ _ h => h, fun _ _ _ _ h => h⟩
    · refine ⟨⟨fun _ _ => trivial, fun ρ w' hX hG hk => ?_⟩, ?_⟩
      · obtain ⟨k0, -⟩ := hk
        have e0 : ρ (.tmp 1) = Value.pointer (some ⟨w.heap.size, 0, none⟩) := k0
        clear k0
        refine Par.val_k fun K hK => ?_
        unfold Par.val
        (go_simp; exact hK _ _ ⟨Ext.refl _, rfl⟩)
      refine ⟨⟨fun _ _ => trivial, fun ρ w' hX hG hk => ?_⟩, ?_⟩
      · obtain ⟨k0, -⟩ := hk
        have e0 : ρ (.tmp 3) = Value.pointer (some ⟨w.heap.size, 0, none⟩) := k0
        clear k0
        refine Par.val_k fun K hK => ?_
        unfold Par.val
        (have c := hX.cell C0.out; go_simp; exact hK _ _ ⟨Ext.refl _, rfl⟩)
      refine ⟨⟨fun _ _ => trivial, fun ρ w' hX hG hk => ?_⟩, ?_⟩
      · obtain ⟨k0, k1, -⟩ := hk
        have e0 := k0
        have e1 : ρ (.tmp 4) = Value.int IntKind.i64 kind := k1
        clear k0 k1
        refine Par.val_k fun K hK => ?_
        unfold Par.val
        refine Par.val_call Tryd.func31 (by kernel_rfl) rfl e0 ?_
        simp only [List.map_toArray, List.map_cons, List.map_nil, e1]
        refine (rmany_any kind _).mono ?_
        rintro e w2 ⟨rfl, h2⟩
        exact ⟨_, rfl, hK _ _ ⟨h2, (congrArg (Value.int IntKind.i64) HRM.out)⟩⟩
      refine ⟨⟨fun _ _ => trivial, fun ρ w' hX hG hk => ?_⟩, ?_⟩
      · obtain ⟨k0, k1, -⟩ := hk
        have e0 : ρ (.tmp 5) = Value.int IntKind.i64 (-1) := k0
        have e1 : ρ (Operand.const (Value.int IntKind.i64 0)) = (Value.int IntKind.i64 0) := k1
        clear k0 k1
        refine Par.val_k fun K hK => ?_
        unfold Par.val
        (go_simp; exact hK _ _ ⟨Ext.refl _, rfl⟩)
      refine ⟨⟨fun _ _ => trivial, fun ρ w' hX hG hk => ?_⟩, ?_⟩
      · exact Par.val_of_run rfl ⟨Ext.refl _, hk.1⟩
      refine ⟨⟨fun _ _ u hu => .inr rfl, fun ρ w' hX hG hk => ?_⟩, ?_⟩
      · cases hG
      refine ⟨⟨fun _ _ u hu => .inr rfl, fun ρ w' hX hG hk => ?_⟩, ?_⟩
      · cases hG
      refine ⟨⟨fun _ _ u hu => .inr rfl, fun ρ w' hX hG hk => ?_⟩, ?_⟩
      · cases hG
      refine ⟨⟨fun _ _ u hu => .inr rfl, fun ρ w' hX hG hk => ?_⟩, ?_⟩
      · cases hG
      refine ⟨⟨fun _ _ u hu => .inr rfl, fun ρ w' hX hG hk => ?_⟩, ?_⟩
      · cases hG
      refine ⟨⟨fun _ _ u hu => .inr rfl, fun ρ w' hX hG hk => ?_⟩, ?_⟩
      · cases hG
      refine ⟨⟨fun _ _ u hu => .inr rfl, fun ρ w' hX hG hk => ?_⟩, ?_⟩
      · cases hG
      refine ⟨⟨fun _ _ => trivial, fun ρ w' hX hG hk => ?_⟩, ?_⟩
      · obtain ⟨k0, k1, k2, -⟩ := hk
        have e0 : ρ (.tmp 7) = Value.bool false := k0
        have e1 : ρ (.tmp 14) = undef := k1
        have e2 : ρ (Operand.const (Value.bool false)) = (Value.bool false) := k2
        clear k0 k1 k2
        refine Par.val_k fun K hK => ?_
        unfold Par.val
        (go_simp; exact hK _ _ ⟨Ext.refl _, rfl⟩)
      refine ⟨⟨fun _ _ => trivial, fun ρ w' hX hG hk => ?_⟩, ?_⟩
      · exact Par.val_of_run rfl ⟨Ext.refl _, hk.1⟩
      refine ⟨⟨fun _ _ u hu => .inr rfl, fun ρ w' hX hG hk => ?_⟩, ?_⟩
      · cases hG
      refine ⟨⟨fun _ _ u hu => .inr rfl, fun ρ w' hX hG hk => ?_⟩, ?_⟩
      · cases hG
      refine ⟨⟨fun _ _ u hu => .inr rfl, fun ρ w' hX hG hk => ?_⟩, ?_⟩
      · cases hG
      refine ⟨⟨fun _ _ u hu => .inr rfl, fun ρ w' hX hG hk => ?_⟩, ?_⟩
      · cases hG
      refine ⟨⟨fun _ _ u hu => .inr rfl, fun ρ w' hX hG hk => ?_⟩, ?_⟩
      · cases hG
      refine ⟨⟨fun _ _ u hu => .inr rfl, fun ρ w' hX hG hk => ?_⟩, ?_⟩
      · cases hG
      refine ⟨⟨fun _ _ => trivial, fun ρ w' hX hG hk => ?_⟩, ?_⟩
      · obtain ⟨k0, k1, k2, -⟩ := hk
        have e0 : ρ (.tmp 16) = Value.bool false := k0
        have e1 : ρ (.tmp 22) = undef := k1
        have e2 : ρ (Operand.const (Value.bool false)) = (Value.bool false) := k2
        clear k0 k1 k2
        refine Par.val_k fun K hK => ?_
        unfold Par.val
        (go_simp; exact hK _ _ ⟨Ext.refl _, rfl⟩)
      refine ⟨⟨fun _ _ => trivial, fun ρ w' hX hG hk => ?_⟩, ?_⟩
      · obtain ⟨k0, -⟩ := hk
        have e0 : ρ (.tmp 23) = Value.bool false := k0
        clear k0
        refine Par.val_k fun K hK => ?_
        unfold Par.val
        (go_simp; exact hK _ _ ⟨Ext.refl _, rfl⟩)
      trivial
    intro a' w' inv
    have hX := inv.ext
    have q3 : a'.tmps.getD 3 undef = Value.pointer (some ⟨w.heap.size, 0, none⟩) := inv.done 0 _ 3 rfl rfl rfl
    have q4 : a'.tmps.getD 4 undef = Value.int IntKind.i64 kind := inv.done 1 _ 4 rfl rfl rfl
    have q5 : a'.tmps.getD 5 undef = Value.int IntKind.i64 (-1) := inv.done 2 _ 5 rfl rfl rfl
    have q6 : a'.tmps.getD 6 undef = Value.bool false := inv.done 3 _ 6 rfl rfl rfl
    have q7 : a'.tmps.getD 7 undef = Value.bool false := inv.done 4 _ 7 rfl rfl rfl
    have q8 : a'.tmps.getD 8 undef = undef := inv.done 5 _ 8 rfl rfl rfl
    have q9 : a'.tmps.getD 9 undef = undef := inv.done 6 _ 9 rfl rfl rfl
    have q10 : a'.tmps.getD 10 undef = undef := inv.done 7 _ 10 rfl rfl rfl
    have q11 : a'.tmps.getD 11 undef = undef := inv.done 8 _ 11 rfl rfl rfl
    have q12 : a'.tmps.getD 12 undef = undef := inv.done 9 _ 12 rfl rfl rfl
    have q13 : a'.tmps.getD 13 undef = undef := inv.done 10 _ 13 rfl rfl rfl
    have q14 : a'.tmps.getD 14 undef = undef := inv.done 11 _ 14 rfl rfl rfl
    have q15 : a'.tmps.getD 15 undef = Value.bool false := inv.done 12 _ 15 rfl rfl rfl
    have q16 : a'.tmps.getD 16 undef = Value.bool false := inv.done 13 _ 16 rfl rfl rfl
    have q17 : a'.tmps.getD 17 undef = undef := inv.done 14 _ 17 rfl rfl rfl
    have q18 : a'.tmps.getD 18 undef = undef := inv.done 15 _ 18 rfl rfl rfl
    have q19 : a'.tmps.getD 19 undef = undef := inv.done 16 _ 19 rfl rfl rfl
    have q20 : a'.tmps.getD 20 undef = undef := inv.done 17 _ 20 rfl rfl rfl
    have q21 : a'.tmps.getD 21 undef = undef := inv.done 18 _ 21 rfl rfl rfl
    have q22 : a'.tmps.getD 22 undef = undef := inv.done 19 _ 22 rfl rfl rfl
    have q23 : a'.tmps.getD 23 undef = Value.bool false := inv.done 20 _ 23 rfl rfl rfl
    have q2 : a'.tmps.getD 2 undef = Value.bool false := inv.done 21 _ 2 rfl rfl rfl
    clear inv
    simp only [List.filterMap_cons, List.filterMap_nil, Par.putAll, Act.put, List.setIfInBounds_toArray, List.set_cons_succ, List.set_cons_zero, q3, q4, q5, q6, q7, q8, q9, q10, q11, q12, q13, q14, q15, q16, q17, q18, q19, q20, q21, q22, q23, q2]
    clear q3 q4 q5 q6 q7 q8 q9 q10 q11 q12 q13 q14 q15 q16 q17 q18 q19 q20 q21 q22 q23 q2
    clear a'
    go_wp2
    go_ret
    rw [HR.out]
    exact ⟨rfl, HE.out.trans hX⟩

theorem rbytes5_any (r : Rc) (v : Value) (w : World) (hv : Vec uv w v r.n) :
    Calls Tryd.prog 10 #[rv r v] w fun e w' => ∃ x, e = .returned (.tuple #[x, .int .i64 (recBytes r).2]) ∧ Own w' w.heap.size 5 x (recBytes r).1 ∧ Ext w w' := by
  obtain ⟨ao, cap, rfl, -⟩ := hv.open
  obtain ⟨kind, n, text⟩ := r
  have HV := hid hv
  clear hv
  have hE1 := Ext.alloc w (.cells #[.int .i64 kind, .slice ao n.length cap, .string (str text)] 30)
  obtain ⟨c0, c1, c2⟩ := blk3 (heap_alloc_new w (.cells #[.int .i64 kind, .slice ao n.length cap, .string (str text)] 30))
  obtain ⟨B, hB⟩ : ∃ B, rightB ⟨kind, n, text⟩ = B := ⟨_, rfl⟩
  have HB := hid hB
  clear hB
  go_enter Tryd.func10, Tryd.ntmps10
  go_wp2_with fail
  generalize w.alloc (.cells #[.int .i64 kind, .slice ao n.length cap, .string (str text)] 30) = W at *
  have HE := hid hE1
  clear hE1
  go_wp2_with fail
  refine (rright5_any ⟨kind, n, text⟩ (.slice ao n.length cap) _ (HV.out.ext HE.out)).mono ?_
  rintro e w1 ⟨rfl, hw1⟩
  rw [HB.out]
  have d0 := hw1.cell c0
  have d1 := hw1.cell c1
  have d2 := hw1.cell c2
  have HE1 := hid (HE.out.trans hw1)
  clear c0 c1 c2 hw1
  cases B with
  | false =>
    have HR := hid (recBytes_bad HB.out)
    go_wp2
    go_ret2
    rw [HR.out]
    exact ⟨_, rfl, Own.nil _ _ _, HE1.out⟩
  | true =>
    have HR := hid (recBytes_ok HB.out)
    obtain ⟨hn, htx, hk1, hk2⟩ := right_num HB.out
    simp only at hn htx hk1 hk2
    have hw8 := kind_wrap hk1 hk2
    obtain ⟨k8, hk8⟩ : ∃ k8, UInt8.ofNat kind.toNat = k8 := ⟨_, rfl⟩
    rw [hk8] at hw8
    have hfv : recFr ⟨kind, n, text⟩ = ⟨k8, vall n ++ text⟩ := by rw [← hk8]; rfl
    have hfb : fbytesR (recFr ⟨kind, n, text⟩) = (fbytes (recFr ⟨kind, n, text⟩), 0) := by
      unfold fbytesR; rw [if_neg (by have := body_le HB.out; simp only [recFr]; omega)]
    rw [hfv] at hfb
    obtain ⟨FB, hFB⟩ : ∃ FB, fbytes ⟨k8, vall n ++ text⟩ = FB := ⟨_, rfl⟩
    rw [hFB] at hfb
    have HFB := hid (show fbytes (recFr ⟨kind, n, text⟩) = FB by rw [hfv, hFB])
    have HFR := hid hfb
    clear hk8 hfv hfb hFB
    have hvl := vall_len n
    go_wp2_with fail
    have C0 := hid d0
    have C1 := hid d1
    have C2 := hid d2
    have HVL := hid hvl
    clear d0 d1 d2 hvl
    refine ParB.wp_region_par (l := [_, _, _, _, _, _, _, _, _, _, _, _, _, _, _, _]) rfl Ext (ParB.XI 9 (World.heap w1).size) (ParB.VLB [ParB.EQ (Value.pointer (some ⟨w.heap.size, 0, none⟩)), ParB.EQ (Value.int IntKind.i64 kind), ParB.EQ (Value.int IntKind.u8 (k8.toNat : Int)), ParB.EQ (Value.pointer (some ⟨w.heap.size, 1, none⟩)), ParB.EQ (Value.slice ao n.length cap), (fun L v w' => L 9 = true ∨ Own w' w1.heap.size 5 v (vall n)), ParB.EQ (Value.pointer (some ⟨w.heap.size, 2, none⟩)), ParB.EQ (Value.string (str text)), (fun L v w' => L 9 = true ∨ Byt w' v text), (fun L v w' => L 9 = true ∧ Own w' w1.heap.size 5 v (vall n ++ text)), (fun L v w' => L 9 = true ∧ ∃ r, v = .agg #[.int .u8 (k8.toNat : Int), r] ∧ Own w' w1.heap.size 5 r (vall n ++ text)), (fun L v w' => L 9 = true ∧ ∃ r, v = .tuple #[r, .int .i64 0] ∧ Own w' w1.heap.size 5 r FB), (fun L v w' => L 9 = true ∧ Own w' w1.heap.size 5 v FB), (fun L v w' => L 9 = true ∧ v = .int .i64 0), (fun L v w' => L 9 = true ∧ Own w' w1.heap.size 5 v FB), (fun L v w' => L 9 = true ∧ v = .int .i64 0)]) (by kernel_rfl) (ParB.XI_refl _ _) ParB.XI_trans (Ext.draw _) (ParB.stab_mk 5 (by kernel_rfl) ?_ ?_) ?_ ?_
    · simp only [List.forall_mem_cons, List.not_mem_nil, false_implies, implies_true, and_true]
      refine ⟨fun _ _ _ _ _ _ h => h, fun _ _ _ _ _ _ h => h, fun _ _ _ _ _ _ h => h, fun _ _ _ _ _ _ h => h, fun _ _ _ _ _ _ h => h, fun i L v a b k hh => hh.imp (fun e => by simp [ParB.upd, e]) (fun q => q.ext k), fun _ _ _ _ _ _ h => h, fun _ _ _ _ _ _ h => h, fun i L v a b k hh => hh.imp (fun e => by simp [ParB.upd, e]) (fun q => q.ext k), fun i L v a b k hh => ⟨by simp [ParB.upd, hh.1], hh.2.ext k⟩, fun i L v a b k hh => ⟨by simp [ParB.upd, hh.1], hh.2.imp fun r q => ⟨q.1, q.2.ext k⟩⟩, fun i L v a b k hh => ⟨by simp [ParB.upd, hh.1], hh.2.imp fun r q => ⟨q.1, q.2.ext k⟩⟩, fun i L v a b k hh => ⟨by simp [ParB.upd, hh.1], hh.2.ext k⟩, fun i L v a b k hh => ⟨by simp [ParB.upd, hh.1], hh.2⟩, fun i L v a b k hh => ⟨by simp [ParB.upd, hh.1], hh.2.ext k⟩, fun i L v a b k hh => ⟨by simp [ParB.upd, hh.1], hh.2⟩⟩
    · simp only [List.set_cons_succ, List.set_cons_zero, List.forall_mem_cons, List.not_mem_nil, false_implies, implies_true, and_true, true_and]
      refine ⟨fun _ _ _ _ _ _ h => h, fun _ _ _ _ _ _ h => h, fun _ _ _ _ _ _ h => h, fun _ _ _ _ _ _ h => h, fun _ _ _ _ _ _ h => h, fun L v a b hL k hh => .inl (by simp [ParB.upd]), fun _ _ _ _ _ _ h => h, fun _ _ _ _ _ _ h => h, fun L v a b hL k hh => .inl (by simp [ParB.upd]), fun L v a b hL k hh => absurd hh.1 (by simp [hL]), fun L v a b hL k hh => absurd hh.1 (by simp [hL]), fun L v a b hL k hh => absurd hh.1 (by simp [hL]), fun L v a b hL k hh => absurd hh.1 (by simp [hL]), fun L v a b hL k hh => absurd hh.1 (by simp [hL]), fun L v a b hL k hh => absurd hh.1 (by simp [hL])⟩
    · refine ⟨⟨fun _ _ _ => trivial, fun L ρ w' hX hL hG hk => ?_⟩, ?_⟩
      · obtain ⟨k0, -⟩ := hk
        have e0 : ρ (.tmp 1) = Value.pointer (some ⟨w.heap.size, 0, none⟩) := k0
        clear k0
        refine Par.val_k fun K hK => ?_
        unfold Par.val
        (go_simp; exact hK _ _ ⟨ParB.XI_refl _ _ 0 _, rfl⟩)
      refine ⟨⟨fun _ _ _ => trivial, fun L ρ w' hX hL hG hk => ?_⟩, ?_⟩
      · obtain ⟨k0, -⟩ := hk
        have e0 : ρ (.tmp 7) = Value.pointer (some ⟨w.heap.size, 0, none⟩) := k0
        clear k0
        refine Par.val_k fun K hK => ?_
        unfold Par.val
        (have c := hX.cell C0.out; go_simp; exact hK _ _ ⟨ParB.XI_refl _ _ 1 _, rfl⟩)
      refine ⟨⟨fun _ _ _ => trivial, fun L ρ w' hX hL hG hk => ?_⟩, ?_⟩
      · obtain ⟨k0, -⟩ := hk
        have e0 : ρ (.tmp 8) = Value.int IntKind.i64 kind := k0
        clear k0
        refine Par.val_k fun K hK => ?_
        unfold Par.val
        (go_simp; exact hK _ _ ⟨ParB.XI_refl _ _ 2 _, rfl⟩)
      refine ⟨⟨fun _ _ _ => trivial, fun L ρ w' hX hL hG hk => ?_⟩, ?_⟩
      · obtain ⟨k0, -⟩ := hk
        have e0 : ρ (.tmp 1) = Value.pointer (some ⟨w.heap.size, 0, none⟩) := k0
        clear k0
        refine Par.val_k fun K hK => ?_
        unfold Par.val
        (go_simp; exact hK _ _ ⟨ParB.XI_refl _ _ 3 _, rfl⟩)
      refine ⟨⟨fun _ _ _ => trivial, fun L ρ w' hX hL hG hk => ?_⟩, ?_⟩
      · obtain ⟨k0, -⟩ := hk
        have e0 : ρ (.tmp 10) = Value.pointer (some ⟨w.heap.size, 1, none⟩) := k0
        clear k0
        refine Par.val_k fun K hK => ?_
        unfold Par.val
        (have c := hX.cell C1.out; go_simp; exact hK _ _ ⟨ParB.XI_refl _ _ 4 _, rfl⟩)
      refine ⟨⟨fun _ _ _ => trivial, fun L ρ w' hX hL hG hk => ?_⟩, ?_⟩
      · obtain ⟨k0, k1, -⟩ := hk
        have e0 := k0
        have e1 : ρ (.tmp 11) = Value.slice ao n.length cap := k1
        clear k0 k1
        refine Par.val_k fun K hK => ?_
        unfold Par.val
        refine Par.val_call Tryd.func27 (by kernel_rfl) rfl e0 ?_
        simp only [List.map_toArray, List.map_cons, List.map_nil, e1]
        refine (rall_any _ n _ ((HV.out.ext HE1.out).ext hX) (by omega)).mono ?_
        rintro e w2 ⟨r, rfl, hr, hx2⟩
        exact ⟨_, rfl, hK _ _ ⟨ParB.XI_other (i0 := 9) (i := 5) (by decide) (hx2), .inr (hr.mono hX.size)⟩⟩
      refine ⟨⟨fun _ _ _ => trivial, fun L ρ w' hX hL hG hk => ?_⟩, ?_⟩
      · obtain ⟨k0, -⟩ := hk
        have e0 : ρ (.tmp 1) = Value.pointer (some ⟨w.heap.size, 0, none⟩) := k0
        clear k0
        refine Par.val_k fun K hK => ?_
        unfold Par.val
        (go_simp; exact hK _ _ ⟨ParB.XI_refl _ _ 6 _, rfl⟩)
      refine ⟨⟨fun _ _ _ => trivial, fun L ρ w' hX hL hG hk => ?_⟩, ?_⟩
      · obtain ⟨k0, -⟩ := hk
        have e0 : ρ (.tmp 13) = Value.pointer (some ⟨w.heap.size, 2, none⟩) := k0
        clear k0
        refine Par.val_k fun K hK => ?_
        unfold Par.val
        (have c := hX.cell C2.out; go_simp; exact hK _ _ ⟨ParB.XI_refl _ _ 7 _, rfl⟩)
      refine ⟨⟨fun _ _ _ => trivial, fun L ρ w' hX hL hG hk => ?_⟩, ?_⟩
      · obtain ⟨k0, -⟩ := hk
        have e0 : ρ (.tmp 14) = Value.string (str text) := k0
        clear k0
        refine Par.val_k fun K hK => ?_
        unfold Par.val
        (obtain ⟨ao2, cap2, w2, hr, hb2, hx2⟩ := run_convert_str (P := Tryd.prog) w' 9 25 5 text (by omega) Tryd.underlying9 Tryd.underlying25 Tryd.underlying5; rw [← e0] at hr; refine val_convert hr (hK _ _ ⟨ParB.XI_other (i0 := 9) (i := 8) (by decide) hx2, .inr hb2⟩))
      refine ⟨⟨fun _ _ _ => trivial, fun L ρ w' hX hL hG hk => ?_⟩, ?_⟩
      · obtain ⟨k0, k1, -⟩ := hk
        have e0 : (fun L v w' => L 9 = true ∨ Own w' w1.heap.size 5 v (vall n)) L (ρ (.tmp 12)) w' := k0
        have e1 : (fun L v w' => L 9 = true ∨ Byt w' v text) L (ρ (.tmp 15)) w' := k1
        clear k0 k1
        refine Par.val_k fun K hK => ?_
        unfold Par.val
        (have ho := e0.resolve_left (by simp [hL]); have hby := e1.resolve_left (by simp [hL]); obtain ⟨ao2, cap2, w2, hr, ho2, hg2, hb2⟩ := run_append_byt (P := Tryd.prog) w1.heap.size 25 25 5 Tryd.underlying25 info8 ho hby (by have := HVL.out; omega) hX.size; refine Par.val_append hr (hK _ _ ⟨ParB.XI_same hb2, by simp [ParB.upd], ho2⟩))
      refine ⟨⟨fun _ _ _ => trivial, fun L ρ w' hX hL hG hk => ?_⟩, ?_⟩
      · obtain ⟨k0, k1, -⟩ := hk
        have e0 : ρ (.tmp 9) = Value.int IntKind.u8 (k8.toNat : Int) := k0
        have e1 : (fun L v w' => L 9 = true ∧ Own w' w1.heap.size 5 v (vall n ++ text)) L (ρ (.tmp 16)) w' := k1
        clear k0 k1
        refine Par.val_k fun K hK => ?_
        unfold Par.val
        (obtain ⟨h9, ho9⟩ := e1; obtain ⟨ao9, cp9, hs9, -⟩ := ho9.byt.open; rw [hs9, List.length_append] at ho9; go_simp; exact hK _ _ ⟨ParB.XI_refl _ _ 10 _, by simp [ParB.upd, h9], _, rfl, ho9⟩)
      refine ⟨⟨fun _ _ _ => trivial, fun L ρ w' hX hL hG hk => ?_⟩, ?_⟩
      · obtain ⟨k0, k1, -⟩ := hk
        have e0 := k0
        have e1 : (fun L v w' => L 9 = true ∧ ∃ r, v = .agg #[.int .u8 (k8.toNat : Int), r] ∧ Own w' w1.heap.size 5 r (vall n ++ text)) L (ρ (.tmp 17)) w' := k1
        clear k0 k1
        refine Par.val_k fun K hK => ?_
        unfold Par.val
        (obtain ⟨h9, r9, hr9, ho9⟩ := e1; refine Par.val_call Tryd.func26 (by kernel_rfl) rfl e0 ?_; simp only [List.map_toArray, List.map_cons, List.map_nil, hr9]; have hcall := rbytes_any ⟨k8, vall n ++ text⟩ r9 w' ho9.byt; rw [HFR.out] at hcall; refine hcall.mono ?_; rintro e w2 ⟨r, rfl, hr, hx2⟩; exact ⟨_, rfl, hK _ _ ⟨ParB.XI_other (i0 := 9) (i := 11) (by decide) hx2, by simp [ParB.upd, h9], r, rfl, hr.mono hX.size⟩⟩)
      refine ⟨⟨fun _ _ _ => trivial, fun L ρ w' hX hL hG hk => ?_⟩, ?_⟩
      · obtain ⟨k0, -⟩ := hk
        have e0 : (fun L v w' => L 9 = true ∧ ∃ r, v = .tuple #[r, .int .i64 0] ∧ Own w' w1.heap.size 5 r FB) L (ρ (.tmp 18)) w' := k0
        clear k0
        refine Par.val_k fun K hK => ?_
        unfold Par.val
        (obtain ⟨h9, r9, hr9, ho9⟩ := e0; go_simp; exact hK _ _ ⟨ParB.XI_refl _ _ 12 _, by simp [ParB.upd, h9], ho9⟩)
      refine ⟨⟨fun _ _ _ => trivial, fun L ρ w' hX hL hG hk => ?_⟩, ?_⟩
      · obtain ⟨k0, -⟩ := hk
        have e0 : (fun L v w' => L 9 = true ∧ ∃ r, v = .tuple #[r, .int .i64 0] ∧ Own w' w1.heap.size 5 r FB) L (ρ (.tmp 18)) w' := k0
        clear k0
        refine Par.val_k fun K hK => ?_
        unfold Par.val
        (obtain ⟨h9, r9, hr9, ho9⟩ := e0; go_simp; exact hK _ _ ⟨ParB.XI_refl _ _ 13 _, by simp [ParB.upd, h9], rfl⟩)
      refine ⟨⟨fun _ _ _ => trivial, fun L ρ w' hX hL hG hk => ?_⟩, ?_⟩
      · exact Par.val_of_run rfl ⟨ParB.XI_refl _ _ 14 _, hk.1⟩
      refine ⟨⟨fun _ _ _ => trivial, fun L ρ w' hX hL hG hk => ?_⟩, ?_⟩
      · exact Par.val_of_run rfl ⟨ParB.XI_refl _ _ 15 _, hk.1⟩
      trivial
    intro a' w' inv
    have hX := inv.ext
    have q7 : a'.tmps.getD 7 undef = Value.pointer (some ⟨w.heap.size, 0, none⟩) := inv.done 0 _ 7 rfl rfl rfl
    have q8 : a'.tmps.getD 8 undef = Value.int IntKind.i64 kind := inv.done 1 _ 8 rfl rfl rfl
    have q9 : a'.tmps.getD 9 undef = Value.int IntKind.u8 (k8.toNat : Int) := inv.done 2 _ 9 rfl rfl rfl
    have q10 : a'.tmps.getD 10 undef = Value.pointer (some ⟨w.heap.size, 1, none⟩) := inv.done 3 _ 10 rfl rfl rfl
    have q11 : a'.tmps.getD 11 undef = Value.slice ao n.length cap := inv.done 4 _ 11 rfl rfl rfl
    have q12 : (fun L v w' => L 9 = true ∨ Own w' w1.heap.size 5 v (vall n)) (ParB.Lof (Array.replicate 16 true)) (a'.tmps.getD 12 undef) w' := inv.done 5 _ 12 rfl rfl rfl
    have q13 : a'.tmps.getD 13 undef = Value.pointer (some ⟨w.heap.size, 2, none⟩) := inv.done 6 _ 13 rfl rfl rfl
    have q14 : a'.tmps.getD 14 undef = Value.string (str text) := inv.done 7 _ 14 rfl rfl rfl
    have q15 : (fun L v w' => L 9 = true ∨ Byt w' v text) (ParB.Lof (Array.replicate 16 true)) (a'.tmps.getD 15 undef) w' := inv.done 8 _ 15 rfl rfl rfl
    have q16 : (fun L v w' => L 9 = true ∧ Own w' w1.heap.size 5 v (vall n ++ text)) (ParB.Lof (Array.replicate 16 true)) (a'.tmps.getD 16 undef) w' := inv.done 9 _ 16 rfl rfl rfl
    have q17 : (fun L v w' => L 9 = true ∧ ∃ r, v = .agg #[.int .u8 (k8.toNat : Int), r] ∧ Own w' w1.heap.size 5 r (vall n ++ text)) (ParB.Lof (Array.replicate 16 true)) (a'.tmps.getD 17 undef) w' := inv.done 10 _ 17 rfl rfl rfl
    have q18 : (fun L v w' => L 9 = true ∧ ∃ r, v = .tuple #[r, .int .i64 0] ∧ Own w' w1.heap.size 5 r FB) (ParB.Lof (Array.replicate 16 true)) (a'.tmps.getD 18 undef) w' := inv.done 11 _ 18 rfl rfl rfl
    have q19 : (fun L v w' => L 9 = true ∧ Own w' w1.heap.size 5 v FB) (ParB.Lof (Array.replicate 16 true)) (a'.tmps.getD 19 undef) w' := inv.done 12 _ 19 rfl rfl rfl
    have q20 : (fun L v w' => L 9 = true ∧ v = .int .i64 0) (ParB.Lof (Array.replicate 16 true)) (a'.tmps.getD 20 undef) w' := inv.done 13 _ 20 rfl rfl rfl
    have q2 : (fun L v w' => L 9 = true ∧ Own w' w1.heap.size 5 v FB) (ParB.Lof (Array.replicate 16 true)) (a'.tmps.getD 2 undef) w' := inv.done 14 _ 2 rfl rfl rfl
    have q3 : (fun L v w' => L 9 = true ∧ v = .int .i64 0) (ParB.Lof (Array.replicate 16 true)) (a'.tmps.getD 3 undef) w' := inv.done 15 _ 3 rfl rfl rfl
    clear inv
    simp only [List.filterMap_cons, List.filterMap_nil, Par.putAll, Act.put, List.setIfInBounds_toArray, List.set_cons_succ, List.set_cons_zero, q7, q8, q9, q10, q11, q13, q14]
    clear q7 q8 q9 q10 q11 q13 q14
    generalize a'.tmps.getD 12 undef = u12 at *
    generalize a'.tmps.getD 15 undef = u15 at *
    generalize a'.tmps.getD 16 undef = u16 at *
    generalize a'.tmps.getD 17 undef = u17 at *
    generalize a'.tmps.getD 18 undef = u18 at *
    generalize a'.tmps.getD 19 undef = u19 at *
    generalize a'.tmps.getD 20 undef = u20 at *
    generalize a'.tmps.getD 2 undef = u2 at *
    generalize a'.tmps.getD 3 undef = u3 at *
    clear a'
    go_wp2
    go_ret2
    obtain ⟨-, rfl⟩ := q3
    rw [HR.out, HFB.out]
    exact ⟨_, rfl, q2.2.mono HE1.out.size, HE1.out.trans hX⟩
end Go.Proofs.YtafdandnbbbdfaaDoor
