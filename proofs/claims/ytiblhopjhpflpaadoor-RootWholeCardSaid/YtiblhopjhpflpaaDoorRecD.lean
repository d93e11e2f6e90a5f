/- Package record: Bytes. -/
import Derived.Test.YtiblhopjhpflpaaDoorRecC
import Derived.Test.YtiblhopjhpflpaaDoorStr
import Derived.Test.YtiblhopjhpflpaaDoorFrmA
set_option maxRecDepth 100000
namespace Go.Proofs.YtiblhopjhpflpaaDoor
open Go.RowKit Go.Tum Go.Tum.Crc Go.Tum.Vint

theorem val_append2 {P : Program} {ρ : Operand → Value} {w w' : World} {K : Value → World → Prop} {v : Value} {t st : Nat} {s x : Operand}
    {dst : Option Tmp} {ty : TypeId} {pos : String} {after : Array Edge} {guard : Option (Nat × Bool)}
    (h : (Builtin.append_ #[t, st] ty #[ρ s, ρ x]).run P w = .ok v w') (hk : K v w') :
    Par.vUpon P K ((execOp ρ { dst, op := .call { callee := .builtin .append, args := #[s, x], argTypes := #[t, st] }, type := ty, pos, after, guard }).run P w) := by
  unfold execOp
  simp only [resolve, invoke, builtin, Sem.run_bind, Sem.run_pure, Result.andThen_ok, List.map_toArray, List.map_cons, List.map_nil, h]
  exact hk
theorem recBytes_ok {r : Rc} (h : rightB r = true) : recBytes r = (fbytes (recFr r), 0) := by unfold recBytes; rw [if_pos h]
theorem recBytes_bad {r : Rc} (h : rightB r = false) : recBytes r = ([], 1) := by unfold recBytes; rw [h]; rfl
theorem right_num {r : Rc} (h : rightB r = true) : r.n.length ≤ 10 ∧ r.text.length ≤ 64 ∧ 1 ≤ r.kind ∧ r.kind ≤ 17 := by
  simp only [rightB, Bool.and_eq_true, decide_eq_true_eq] at h
  have h2 := many_le r.kind
  have h3 := textB_le h.2
  have h4 := h.1.1
  simp only [knownB, Bool.and_eq_true, decide_eq_true_eq] at h4
  omega
theorem kind_wrap {k : Int} (h1 : 1 ≤ k) (h2 : k ≤ 17) : IntKind.u8.wrap k = ((UInt8.ofNat k.toNat).toNat : Int) := by
  have : k.toNat < 256 := by omega
  rw [IntKind.wrap_u8]
  simp; omega

theorem bytes5_any (r : Rc) (v : Value) (w : World) (hv : Vec uv w v r.n) (ht : Tab w) :
    Calls Tryd.prog 18 #[rv r v] w fun e w' => ∃ x, e = .returned (.tuple #[x, .int .i64 (recBytes r).2]) ∧ Own w' w.heap.size 5 x (recBytes r).1 ∧ Ext w w' := by
  obtain ⟨ao, cap, rfl, -⟩ := hv.open
  obtain ⟨kind, n, text⟩ := r
  have HT := hid ht
  have HV := hid hv
  clear ht hv
  have hE1 := Ext.alloc w (.cells #[.int .i64 kind, .slice ao n.length cap, .string (str text)] 61)
  obtain ⟨c0, c1, c2⟩ := blk3 (heap_alloc_new w (.cells #[.int .i64 kind, .slice ao n.length cap, .string (str text)] 61))
  obtain ⟨B, hB⟩ : ∃ B, rightB ⟨kind, n, text⟩ = B := ⟨_, rfl⟩
  have HB := hid hB
  clear hB
  go_enter Tryd.func18, Tryd.ntmps18
  go_wp2_with fail
  generalize w.alloc (.cells #[.int .i64 kind, .slice ao n.length cap, .string (str text)] 61) = W at *
  have HE := hid hE1
  clear hE1
  go_wp2_with fail
  refine (right_any ⟨kind, n, text⟩ (.slice ao n.length cap) _ (HV.out.ext HE.out) (HT.out.ext HE.out)).mono ?_
  rintro e w1 ⟨rfl, hw1⟩
  rw [HB.out]
  have d0 := hw1.cell c0
  have d1 := hw1.cell c1
  have d2 := hw1.cell c2
  have HE1 := hid (HE.out.trans hw1)
  clear c0 c1 c2 hw1
  cases B with
  | false =>
    have HR := hid (recBytes_bad HB.out)
    go_wp2
    go_ret2
    rw [HR.out]
    exact ⟨_, rfl, Own.nil _ _ _, HE1.out⟩
  | true =>
    have HR := hid (recBytes_ok HB.out)
    obtain ⟨hn, htx, hk1, hk2⟩ := right_num HB.out
    simp only at hn htx hk1 hk2
    have hw8 := kind_wrap hk1 hk2
    obtain ⟨k8, hk8⟩ : ∃ k8, UInt8.ofNat kind.toNat = k8 := ⟨_, rfl⟩
    rw [hk8] at hw8
    have HK8 := hid hk8
    clear hk8
    have hvl := vall_len n
    go_wp2_with fail
    have C0 := hid d0
    have C1 := hid d1
    have C2 := hid d2
    have HVL := hid hvl
    clear d0 d1 d2 hvl
    refine ParB.wp_region_par (l := [_, _, _, _, _, _, _]) rfl Ext (ParB.XI 5 (World.heap w1).size) (ParB.VLB [ParB.EQ (Value.pointer (some ⟨w.heap.size, 1, none⟩)), ParB.EQ (Value.slice ao n.length cap), (fun L v w' => L 5 = true ∨ Own w' w1.heap.size 5 v (vall n)), ParB.EQ (Value.pointer (some ⟨w.heap.size, 2, none⟩)), ParB.EQ (Value.string (str text)), (fun L v w' => L 5 = true ∧ Own w' w1.heap.size 5 v (vall n ++ text)), (fun L v w' => L 5 = true ∧ Own w' w1.heap.size 5 v (vall n ++ text))]) (by kernel_rfl) (ParB.XI_refl _ _) ParB.XI_trans (Ext.draw _) (ParB.stab_mk 2 (by kernel_rfl) ?_ ?_) ?_ ?_
    · simp only [List.forall_mem_cons, List.not_mem_nil, false_implies, implies_true, and_true]
      refine ⟨fun _ _ _ _ _ _ h => h, fun _ _ _ _ _ _ h => h, fun i L v a b k hh => hh.imp (fun e => by simp [ParB.upd, e]) (fun q => q.ext k), fun _ _ _ _ _ _ h => h, fun _ _ _ _ _ _ h => h, fun i L v a b k hh => ⟨by simp [ParB.upd, hh.1], hh.2.ext k⟩, fun i L v a b k hh => ⟨by simp [ParB.upd, hh.1], hh.2.ext k⟩⟩
    · simp only [List.set_cons_succ, List.set_cons_zero, List.forall_mem_cons, List.not_mem_nil, false_implies, implies_true, and_true, true_and]
      refine ⟨fun _ _ _ _ _ _ h => h, fun _ _ _ _ _ _ h => h, fun L v a b hL k hh => .inl (by simp [ParB.upd]), fun _ _ _ _ _ _ h => h, fun _ _ _ _ _ _ h => h, fun L v a b hL k hh => absurd hh.1 (by simp [hL])⟩
    · refine ⟨⟨fun _ _ _ => trivial, fun L ρ w' hX hL hG hk => ?_⟩, ?_⟩
      · obtain ⟨k0, -⟩ := hk
        have e0 : ρ (.tmp 1) = Value.pointer (some ⟨w.heap.size, 0, none⟩) := k0
        clear k0
        refine Par.val_k fun K hK => ?_
        unfold Par.val
        (go_simp; exact hK _ _ ⟨ParB.XI_refl _ _ 0 _, rfl⟩)
      refine ⟨⟨fun _ _ _ => trivial, fun L ρ w' hX hL hG hk => ?_⟩, ?_⟩
      · obtain ⟨k0, -⟩ := hk
        have e0 : ρ (.tmp 8) = Value.pointer (some ⟨w.heap.size, 1, none⟩) := k0
        clear k0
        refine Par.val_k fun K hK => ?_
        unfold Par.val
        (have c := hX.cell C1.out; go_simp; exact hK _ _ ⟨ParB.XI_refl _ _ 1 _, rfl⟩)
      refine ⟨⟨fun _ _ _ => trivial, fun L ρ w' hX hL hG hk => ?_⟩, ?_⟩
      · obtain ⟨k0, k1, -⟩ := hk
        have e0 := k0
        have e1 : ρ (.tmp 9) = Value.slice ao n.length cap := k1
        clear k0 k1
        refine Par.val_k fun K hK => ?_
        unfold Par.val
        refine Par.val_call Tryd.func44 (by kernel_rfl) rfl e0 ?_
        simp only [List.map_toArray, List.map_cons, List.map_nil, e1]
        refine (vall_any _ n _ ((HV.out.ext HE1.out).ext hX) (by omega)).mono ?_
        rintro e w2 ⟨r, rfl, hr, hx2⟩
        exact ⟨_, rfl, hK _ _ ⟨ParB.XI_other (i0 := 5) (i := 2) (by decide) (hx2), .inr (hr.mono hX.size)⟩⟩
      refine ⟨⟨fun _ _ _ => trivial, fun L ρ w' hX hL hG hk => ?_⟩, ?_⟩
      · obtain ⟨k0, -⟩ := hk
        have e0 : ρ (.tmp 1) = Value.pointer (some ⟨w.heap.size, 0, none⟩) := k0
        clear k0
        refine Par.val_k fun K hK => ?_
        unfold Par.val
        (go_simp; exact hK _ _ ⟨ParB.XI_refl _ _ 3 _, rfl⟩)
      refine ⟨⟨fun _ _ _ => trivial, fun L ρ w' hX hL hG hk => ?_⟩, ?_⟩
      · obtain ⟨k0, -⟩ := hk
        have e0 : ρ (.tmp 11) = Value.pointer (some ⟨w.heap.size, 2, none⟩) := k0
        clear k0
        refine Par.val_k fun K hK => ?_
        unfold Par.val
        (have c := hX.cell C2.out; go_simp; exact hK _ _ ⟨ParB.XI_refl _ _ 4 _, rfl⟩)
      refine ⟨⟨fun _ _ _ => trivial, fun L ρ w' hX hL hG hk => ?_⟩, ?_⟩
      · obtain ⟨k0, k1, -⟩ := hk
        have e0 : (fun L v w' => L 5 = true ∨ Own w' w1.heap.size 5 v (vall n)) L (ρ (.tmp 10)) w' := k0
        have e1 : ρ (.tmp 12) = Value.string (str text) := k1
        clear k0 k1
        refine Par.val_k fun K hK => ?_
        unfold Par.val
        (have ho := e0.resolve_left (by simp [hL]); obtain ⟨ao2, cap2, w2, hr, ho2, hb2⟩ := run_append_str (P := Tryd.prog) w1.heap.size 35 9 35 5 Tryd.underlying35 Tryd.underlying9 info8 (l2 := text) ho (by have := HVL.out; omega) hX.size; rw [← e1] at hr; have ho3 : Own _ _ _ _ (vall n ++ text) := ho2; refine val_append2 hr (hK _ _ ⟨ParB.XI_same hb2, by simp [ParB.upd], ho3⟩))
      refine ⟨⟨fun _ _ _ => trivial, fun L ρ w' hX hL hG hk => ?_⟩, ?_⟩
      · obtain ⟨k0, -⟩ := hk
        have e0 : (fun L v w' => L 5 = true ∧ Own w' w1.heap.size 5 v (vall n ++ text)) L (ρ (.tmp 13)) w' := k0
        clear k0
        refine Par.val_k fun K hK => ?_
        unfold Par.val
        (go_simp; exact hK _ _ ⟨ParB.XI_refl _ _ 6 _, by simp [ParB.upd, e0.1], e0.2⟩)
      trivial
    intro a' w' inv
    have hX := inv.ext
    have q8 : a'.tmps.getD 8 undef = Value.pointer (some ⟨w.heap.size, 1, none⟩) := inv.done 0 _ 8 rfl rfl rfl
    have q9 : a'.tmps.getD 9 undef = Value.slice ao n.length cap := inv.done 1 _ 9 rfl rfl rfl
    have q10 : (fun L v w' => L 5 = true ∨ Own w' w1.heap.size 5 v (vall n)) (ParB.Lof (Array.replicate 7 true)) (a'.tmps.getD 10 undef) w' := inv.done 2 _ 10 rfl rfl rfl
    have q11 : a'.tmps.getD 11 undef = Value.pointer (some ⟨w.heap.size, 2, none⟩) := inv.done 3 _ 11 rfl rfl rfl
    have q12 : a'.tmps.getD 12 undef = Value.string (str text) := inv.done 4 _ 12 rfl rfl rfl
    have q13 : (fun L v w' => L 5 = true ∧ Own w' w1.heap.size 5 v (vall n ++ text)) (ParB.Lof (Array.replicate 7 true)) (a'.tmps.getD 13 undef) w' := inv.done 5 _ 13 rfl rfl rfl
    have q4 : (fun L v w' => L 5 = true ∧ Own w' w1.heap.size 5 v (vall n ++ text)) (ParB.Lof (Array.replicate 7 true)) (a'.tmps.getD 4 undef) w' := inv.done 6 _ 4 rfl rfl rfl
    clear inv
    simp only [List.filterMap_cons, List.filterMap_nil, Par.putAll, Act.put, List.setIfInBounds_toArray, List.set_cons_succ, List.set_cons_zero, q8, q9, q11, q12]
    clear q8 q9 q11 q12
    generalize a'.tmps.getD 10 undef = u10 at *
    generalize a'.tmps.getD 13 undef = u13 at *
    generalize a'.tmps.getD 4 undef = u4 at *
    clear a'
    obtain ⟨BT, hBT⟩ : ∃ BT, vall n ++ text = BT := ⟨_, rfl⟩
    have ho4 := q4.2
    rw [hBT] at ho4
    have HO := hid ho4
    clear ho4
    have d0 := hX.cell C0.out
    have HX := hid hX
    clear q10 q13 q4 hX
    obtain ⟨ao4, cap4, rfl, -⟩ := HO.out.byt.open
    obtain ⟨W2, rfl⟩ : ∃ W2 : World, W2 = w' := ⟨_, rfl⟩
    go_wp2_with fail
    have hfv : recFr ⟨kind, n, text⟩ = ⟨k8, BT⟩ := by rw [← HK8.out, ← hBT]; rfl
    have hcall := fbytes_any ⟨k8, BT⟩ _ _ HO.out.byt
    have hfb : fbytesR (recFr ⟨kind, n, text⟩) = (fbytes (recFr ⟨kind, n, text⟩), 0) := by
      unfold fbytesR; rw [if_neg (by have := body_le HB.out; simp only [recFr]; omega)]
    obtain ⟨FB, hFB⟩ : ∃ FB, fbytes (recFr ⟨kind, n, text⟩) = FB := ⟨_, rfl⟩
    rw [hFB] at hfb
    rw [hfv] at hfb
    rw [hfb] at hcall
    have HFB := hid hFB
    clear hFB hfb hfv
    refine hcall.mono ?_
    rintro e w2 ⟨r, rfl, hr, hw2⟩
    clear hcall
    go_wp2
    go_ret2
    rw [HR.out, HFB.out]
    exact ⟨_, rfl, hr.mono (Nat.le_trans HE1.out.size HX.out.size), HE1.out.trans (HX.out.trans hw2)⟩
end Go.Proofs.YtiblhopjhpflpaaDoor
