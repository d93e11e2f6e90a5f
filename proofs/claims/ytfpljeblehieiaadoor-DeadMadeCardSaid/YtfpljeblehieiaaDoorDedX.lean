/- The document's list: Cursors on one list; same. -/
import Derived.Test.YtfpljeblehieiaaDoorDedW
set_option linter.unusedSimpArgs false
set_option linter.unusedVariables false
namespace Go.Proofs.YtfpljeblehieiaaDoor
open Go Go.RowKit Go.Tum Go.ChangeMaps Go.Sort Go.Tum.Rn

set_option maxHeartbeats 1000000 in
theorem rcurs_eq (u v : Value) (l : List Cur) (w : World) (hu : Sl w 2 u l.length (l.flatMap encC)) (hv : Sl w 2 v l.length (l.flatMap encC)) :
    Calls Tryd.prog 31 #[u, v] w fun e w' => e = .returned (.bool true) ∧ Ext w w' := by
  obtain ⟨ao, cap, rfl⟩ : ∃ a c, u = .slice a l.length c := by obtain ⟨-, a, c, e, -⟩ := hu; exact ⟨a, c, e⟩
  obtain ⟨bo, cbp, rfl⟩ : ∃ a c, v = .slice a l.length c := by obtain ⟨-, a, c, e, -⟩ := hv; exact ⟨a, c, e⟩
  obtain ⟨hle, hm, hz, hc⟩ := Sl.cells hu
  obtain ⟨hle2, hm2, hz2, hc2⟩ := Sl.cells hv
  have hmm : cap ≤ 9223372036854775807 := by simpa [maxLen] using hm
  have hmm2 : cbp ≤ 9223372036854775807 := by simpa [maxLen] using hm2
  have HC := hid hc
  have HC2 := hid hc2
  clear hu hv hc hc2 hm hm2
  have hne : ((l.length : Int) != (l.length : Int)) = false := by simp
  go_enter Tryd.func31, Tryd.ntmps31
  go_wp2
  go_loopw [5] (fun i wr => ∃ k : Nat, k ≤ l.length ∧ i = .int .i64 k ∧ ∃ n, wr = w.drewN n) (fun i _ => l.length - (intOf i).toNat)
  case atStart => exact ⟨0, by omega, rfl, 0, rfl⟩
  case round =>
    obtain ⟨k, hk, rfl, n, rfl⟩ := hrel
    by_cases hlt : k < l.length
    · obtain ⟨a, rfl⟩ : ∃ a, ao = some a := by
        cases ao with
        | none => have := hz rfl; omega
        | some a => exact ⟨a, rfl⟩
      obtain ⟨b, rfl⟩ : ∃ a, bo = some a := by
        cases bo with
        | none => have := hz2 rfl; omega
        | some a => exact ⟨a, rfl⟩
      obtain ⟨g0, g1⟩ := flat2_get (A := fun z : Cur => vN z.1) (Bf := fun z => vU z.2) l k hlt
      have r0 := cell_first (i := k * 2) (HC.out a rfl _ _ g0)
      have r1 := cell_next (i := k * 2) (j := 1) (HC.out a rfl _ _ g1) (by decide)
      have s0 := cell_first (i := k * 2) (HC2.out b rfl _ _ g0)
      have s1 := cell_next (i := k * 2) (j := 1) (HC2.out b rfl _ _ g1) (by decide)
      obtain ⟨z, hz3⟩ : ∃ z, l[k] = z := ⟨_, rfl⟩
      rw [hz3] at r0 r1 s0 s1
      obtain ⟨z1, z2⟩ := z
      clear g0 g1 hz3
      have hi1 : (k : Int) < l.length := by omega
      go_wp2
      go_quiet (fail)
      go_wp2
      go_roundw
      case rel => exact ⟨k + 1, by omega, by go_num, _, rfl⟩
      case measure => simp [intOf]; omega
    · have hkf : decide ((k : Int) < (l.length : Int)) = false := by simp; omega
      go_wp2
      go_returns
      exact ⟨rfl, Ext.drewN _ _⟩
set_option maxRecDepth 100000 in
set_option maxHeartbeats 2000000 in
theorem same_eq {B1 B2 : Nat} {w : World} {q1 q2 : Nat} {r1 s1 r2 s2 : Value} {s : PD} (h1 : RDD B1 w q1 r1 s1 s) (h2 : RDD B2 w q2 r2 s2 s) :
    Calls Tryd.prog 16 #[pv q1, pv q2] w fun e w' => e = .returned (.bool true) ∧ Ext w w' := by
  have H1 := hid h1
  have H2 := hid h2
  obtain ⟨o1, c1, rfl⟩ := row_shape h1.rr
  obtain ⟨o2, c2, rfl⟩ := row_shape h2.rr
  obtain ⟨o3, c3, rfl⟩ := row_shape h1.ss
  obtain ⟨o4, c4, rfl⟩ := row_shape h2.ss
  clear h1 h2
  go_enter Tryd.func16, Tryd.ntmps16
  go_wp2_with fail
  refine Par.wp_region_par (l := [_, _, _, _, _, _, _, _, _, _, _, _, _, _, _, _, _, _, _, _, _, _, _, _, _, _, _, _, _, _, _, _]) rfl Ext (Par.VL [Par.EQ (pv q1), Par.EQ (pv q1), Par.EQ (Value.pointer (some ⟨q1, 1, none⟩)), Par.EQ (vU s.last), Par.EQ (pv q2), Par.EQ (pv q2), Par.EQ (Value.pointer (some ⟨q2, 1, none⟩)), Par.EQ (vU s.last), Par.EQ (Value.bool true), Par.EQ (Value.bool true), Par.EQ (pv q1), Par.EQ (pv q1), Par.EQ (Value.pointer (some ⟨q1, 0, none⟩)), Par.EQ (Value.slice o1 s.rows.length c1), Par.EQ (pv q2), Par.EQ (pv q2), Par.EQ (Value.pointer (some ⟨q2, 0, none⟩)), Par.EQ (Value.slice o2 s.rows.length c2), Par.EQ (Value.bool true), Par.EQ (Value.bool true), Par.EQ (Value.bool true), Par.EQ (pv q1), Par.EQ (pv q1), Par.EQ (Value.pointer (some ⟨q1, 2, none⟩)), Par.EQ (Value.slice o3 s.seen.length c3), Par.EQ (pv q2), Par.EQ (pv q2), Par.EQ (Value.pointer (some ⟨q2, 2, none⟩)), Par.EQ (Value.slice o4 s.seen.length c4), Par.EQ (Value.bool true), Par.EQ (Value.bool true), Par.EQ (Value.bool true)]) (by kernel_rfl) Ext.refl (fun _ _ _ h1 h2 => Ext.trans h1 h2) (Ext.draw _) (Par.VL_stab ?_) ?_ ?_
  · simp only [List.forall_mem_cons, List.not_mem_nil, false_implies, implies_true, and_true]
    refine ⟨fun _ _ _ _ h => h, fun _ _ _ _ h => h, fun _ _ _ _ h => h, fun _ _ _ _ h => h, fun _ _ _ _ h => h, fun _ _ _ _ h => h, fun _ _ _ _ h => h, fun _ _ _ _ h => h, fun _ _ _ _ h => h, fun _ _ _ _ h => h, fun _ _ _ _ h => h, fun _ _ _ _ h => h, fun _ _ _ _ h => h, fun _ _ _ _ h => h, fun _ _ _ _ h => h, fun _ _ _ _ h => h, fun _ _ _ _ h => h, fun _ _ _ _ h => h, fun _ _ _ _ h => h, fun _ _ _ _ h => h, fun _ _ _ _ h => h, fun _ _ _ _ h => h, fun _ _ _ _ h => h, fun _ _ _ _ h => h, fun _ _ _ _ h => h, fun _ _ _ _ h => h, fun _ _ _ _ h => h, fun _ _ _ _ h => h, fun _ _ _ _ h => h, fun _ _ _ _ h => h, fun _ _ _ _ h => h, fun _ _ _ _ h => h⟩
  · refine ⟨⟨fun _ _ => trivial, fun ρ w' hX hG hk => ?_⟩, ?_⟩
    · exact Par.val_of_run rfl ⟨Ext.refl _, hk.1⟩
    refine ⟨⟨fun _ _ => trivial, fun ρ w' hX hG hk => ?_⟩, ?_⟩
    · obtain ⟨k0, -⟩ := hk
      have e0 : ρ (.tmp 5) = pv q1 := k0
      clear k0
      refine Par.val_k fun K hK => ?_
      unfold Par.val
      (go_simp; exact hK _ _ ⟨Ext.refl _, rfl⟩)
    refine ⟨⟨fun _ _ => trivial, fun ρ w' hX hG hk => ?_⟩, ?_⟩
    · obtain ⟨k0, -⟩ := hk
      have e0 : ρ (.tmp 6) = pv q1 := k0
      clear k0
      refine Par.val_k fun K hK => ?_
      unfold Par.val
      (go_simp; exact hK _ _ ⟨Ext.refl _, rfl⟩)
    refine ⟨⟨fun _ _ => trivial, fun ρ w' hX hG hk => ?_⟩, ?_⟩
    · obtain ⟨k0, -⟩ := hk
      have e0 : ρ (.tmp 7) = Value.pointer (some ⟨q1, 1, none⟩) := k0
      clear k0
      refine Par.val_k fun K hK => ?_
      unfold Par.val
      (have cc := (lk3 (hX.obj H1.out.hd)).2.1; go_simp; exact hK _ _ ⟨Ext.refl _, rfl⟩)
    refine ⟨⟨fun _ _ => trivial, fun ρ w' hX hG hk => ?_⟩, ?_⟩
    · exact Par.val_of_run rfl ⟨Ext.refl _, hk.1⟩
    refine ⟨⟨fun _ _ => trivial, fun ρ w' hX hG hk => ?_⟩, ?_⟩
    · obtain ⟨k0, -⟩ := hk
      have e0 : ρ (.tmp 9) = pv q2 := k0
      clear k0
      refine Par.val_k fun K hK => ?_
      unfold Par.val
      (go_simp; exact hK _ _ ⟨Ext.refl _, rfl⟩)
    refine ⟨⟨fun _ _ => trivial, fun ρ w' hX hG hk => ?_⟩, ?_⟩
    · obtain ⟨k0, -⟩ := hk
      have e0 : ρ (.tmp 10) = pv q2 := k0
      clear k0
      refine Par.val_k fun K hK => ?_
      unfold Par.val
      (go_simp; exact hK _ _ ⟨Ext.refl _, rfl⟩)
    refine ⟨⟨fun _ _ => trivial, fun ρ w' hX hG hk => ?_⟩, ?_⟩
    · obtain ⟨k0, -⟩ := hk
      have e0 : ρ (.tmp 11) = Value.pointer (some ⟨q2, 1, none⟩) := k0
      clear k0
      refine Par.val_k fun K hK => ?_
      unfold Par.val
      (have cc := (lk3 (hX.obj H2.out.hd)).2.1; go_simp; exact hK _ _ ⟨Ext.refl _, rfl⟩)
    refine ⟨⟨fun _ _ => trivial, fun ρ w' hX hG hk => ?_⟩, ?_⟩
    · obtain ⟨k0, k1, -⟩ := hk
      have e0 : ρ (.tmp 8) = vU s.last := k0
      have e1 : ρ (.tmp 12) = vU s.last := k1
      clear k0 k1
      refine Par.val_k fun K hK => ?_
      unfold Par.val
      (go_simp; exact hK _ _ ⟨Ext.refl _, rfl⟩)
    refine ⟨⟨fun _ _ => trivial, fun ρ w' hX hG hk => ?_⟩, ?_⟩
    · exact Par.val_of_run rfl ⟨Ext.refl _, hk.1⟩
    refine ⟨⟨fun _ _ u hu => .inl hu, fun ρ w' hX hG hk => ?_⟩, ?_⟩
    · exact Par.val_of_run rfl ⟨Ext.refl _, hk.1⟩
    refine ⟨⟨fun _ _ u hu => .inl hu, fun ρ w' hX hG hk => ?_⟩, ?_⟩
    · obtain ⟨k0, -⟩ := hk
      have e0 : ρ (.tmp 15) = pv q1 := k0
      clear k0
      refine Par.val_k fun K hK => ?_
      unfold Par.val
      (go_simp; exact hK _ _ ⟨Ext.refl _, rfl⟩)
    refine ⟨⟨fun _ _ u hu => .inl hu, fun ρ w' hX hG hk => ?_⟩, ?_⟩
    · obtain ⟨k0, -⟩ := hk
      have e0 : ρ (.tmp 16) = pv q1 := k0
      clear k0
      refine Par.val_k fun K hK => ?_
      unfold Par.val
      (go_simp; exact hK _ _ ⟨Ext.refl _, rfl⟩)
    refine ⟨⟨fun _ _ u hu => .inl hu, fun ρ w' hX hG hk => ?_⟩, ?_⟩
    · obtain ⟨k0, -⟩ := hk
      have e0 : ρ (.tmp 17) = Value.pointer (some ⟨q1, 0, none⟩) := k0
      clear k0
      refine Par.val_k fun K hK => ?_
      unfold Par.val
      (have cc := (lk3 (hX.obj H1.out.hd)).1; go_simp; exact hK _ _ ⟨Ext.refl _, rfl⟩)
    refine ⟨⟨fun _ _ u hu => .inl hu, fun ρ w' hX hG hk => ?_⟩, ?_⟩
    · exact Par.val_of_run rfl ⟨Ext.refl _, hk.1⟩
    refine ⟨⟨fun _ _ u hu => .inl hu, fun ρ w' hX hG hk => ?_⟩, ?_⟩
    · obtain ⟨k0, -⟩ := hk
      have e0 : ρ (.tmp 19) = pv q2 := k0
      clear k0
      refine Par.val_k fun K hK => ?_
      unfold Par.val
      (go_simp; exact hK _ _ ⟨Ext.refl _, rfl⟩)
    refine ⟨⟨fun _ _ u hu => .inl hu, fun ρ w' hX hG hk => ?_⟩, ?_⟩
    · obtain ⟨k0, -⟩ := hk
      have e0 : ρ (.tmp 20) = pv q2 := k0
      clear k0
      refine Par.val_k fun K hK => ?_
      unfold Par.val
      (go_simp; exact hK _ _ ⟨Ext.refl _, rfl⟩)
    refine ⟨⟨fun _ _ u hu => .inl hu, fun ρ w' hX hG hk => ?_⟩, ?_⟩
    · obtain ⟨k0, -⟩ := hk
      have e0 : ρ (.tmp 21) = Value.pointer (some ⟨q2, 0, none⟩) := k0
      clear k0
      refine Par.val_k fun K hK => ?_
      unfold Par.val
      (have cc := (lk3 (hX.obj H2.out.hd)).1; go_simp; exact hK _ _ ⟨Ext.refl _, rfl⟩)
    refine ⟨⟨fun _ _ u hu => .inl hu, fun ρ w' hX hG hk => ?_⟩, ?_⟩
    · obtain ⟨k0, k1, k2, -⟩ := hk
      have e0 := k0
      have e1 : ρ (.tmp 18) = Value.slice o1 s.rows.length c1 := k1
      have e2 : ρ (.tmp 22) = Value.slice o2 s.rows.length c2 := k2
      clear k0 k1 k2
      refine Par.val_k fun K hK => ?_
      unfold Par.val
      refine Par.val_call Tryd.func30 (by kernel_rfl) rfl e0 ?_
      simp only [List.map_toArray, List.map_cons, List.map_nil, e1, e2]
      refine (rrows_eq _ _ s.rows _ (Sl.of_owns (hX.owns H1.out.rr)) (Sl.of_owns (hX.owns H2.out.rr))).mono ?_
      rintro e w2 ⟨rfl, hE⟩
      exact ⟨_, rfl, hK _ _ ⟨hE, rfl⟩⟩
    refine ⟨⟨fun _ _ => trivial, fun ρ w' hX hG hk => ?_⟩, ?_⟩
    · obtain ⟨k0, k1, k2, -⟩ := hk
      have e0 : ρ (.tmp 14) = Value.bool true := k0
      have e1 : ρ (.tmp 23) = Value.bool true := k1
      have e2 : ρ (Operand.const (Value.bool false)) = (Value.bool false) := k2
      clear k0 k1 k2
      refine Par.val_k fun K hK => ?_
      unfold Par.val
      (go_simp; exact hK _ _ ⟨Ext.refl _, rfl⟩)
    refine ⟨⟨fun _ _ => trivial, fun ρ w' hX hG hk => ?_⟩, ?_⟩
    · exact Par.val_of_run rfl ⟨Ext.refl _, hk.1⟩
    refine ⟨⟨fun _ _ u hu => .inl hu, fun ρ w' hX hG hk => ?_⟩, ?_⟩
    · exact Par.val_of_run rfl ⟨Ext.refl _, hk.1⟩
    refine ⟨⟨fun _ _ u hu => .inl hu, fun ρ w' hX hG hk => ?_⟩, ?_⟩
    · obtain ⟨k0, -⟩ := hk
      have e0 : ρ (.tmp 26) = pv q1 := k0
      clear k0
      refine Par.val_k fun K hK => ?_
      unfold Par.val
      (go_simp; exact hK _ _ ⟨Ext.refl _, rfl⟩)
    refine ⟨⟨fun _ _ u hu => .inl hu, fun ρ w' hX hG hk => ?_⟩, ?_⟩
    · obtain ⟨k0, -⟩ := hk
      have e0 : ρ (.tmp 27) = pv q1 := k0
      clear k0
      refine Par.val_k fun K hK => ?_
      unfold Par.val
      (go_simp; exact hK _ _ ⟨Ext.refl _, rfl⟩)
    refine ⟨⟨fun _ _ u hu => .inl hu, fun ρ w' hX hG hk => ?_⟩, ?_⟩
    · obtain ⟨k0, -⟩ := hk
      have e0 : ρ (.tmp 28) = Value.pointer (some ⟨q1, 2, none⟩) := k0
      clear k0
      refine Par.val_k fun K hK => ?_
      unfold Par.val
      (have cc := (lk3 (hX.obj H1.out.hd)).2.2.1; go_simp; exact hK _ _ ⟨Ext.refl _, rfl⟩)
    refine ⟨⟨fun _ _ u hu => .inl hu, fun ρ w' hX hG hk => ?_⟩, ?_⟩
    · exact Par.val_of_run rfl ⟨Ext.refl _, hk.1⟩
    refine ⟨⟨fun _ _ u hu => .inl hu, fun ρ w' hX hG hk => ?_⟩, ?_⟩
    · obtain ⟨k0, -⟩ := hk
      have e0 : ρ (.tmp 30) = pv q2 := k0
      clear k0
      refine Par.val_k fun K hK => ?_
      unfold Par.val
      (go_simp; exact hK _ _ ⟨Ext.refl _, rfl⟩)
    refine ⟨⟨fun _ _ u hu => .inl hu, fun ρ w' hX hG hk => ?_⟩, ?_⟩
    · obtain ⟨k0, -⟩ := hk
      have e0 : ρ (.tmp 31) = pv q2 := k0
      clear k0
      refine Par.val_k fun K hK => ?_
      unfold Par.val
      (go_simp; exact hK _ _ ⟨Ext.refl _, rfl⟩)
    refine ⟨⟨fun _ _ u hu => .inl hu, fun ρ w' hX hG hk => ?_⟩, ?_⟩
    · obtain ⟨k0, -⟩ := hk
      have e0 : ρ (.tmp 32) = Value.pointer (some ⟨q2, 2, none⟩) := k0
      clear k0
      refine Par.val_k fun K hK => ?_
      unfold Par.val
      (have cc := (lk3 (hX.obj H2.out.hd)).2.2.1; go_simp; exact hK _ _ ⟨Ext.refl _, rfl⟩)
    refine ⟨⟨fun _ _ u hu => .inl hu, fun ρ w' hX hG hk => ?_⟩, ?_⟩
    · obtain ⟨k0, k1, k2, -⟩ := hk
      have e0 := k0
      have e1 : ρ (.tmp 29) = Value.slice o3 s.seen.length c3 := k1
      have e2 : ρ (.tmp 33) = Value.slice o4 s.seen.length c4 := k2
      clear k0 k1 k2
      refine Par.val_k fun K hK => ?_
      unfold Par.val
      refine Par.val_call Tryd.func31 (by kernel_rfl) rfl e0 ?_
      simp only [List.map_toArray, List.map_cons, List.map_nil, e1, e2]
      refine (rcurs_eq _ _ s.seen _ (Sl.of_owns (hX.owns H1.out.ss)) (Sl.of_owns (hX.owns H2.out.ss))).mono ?_
      rintro e w2 ⟨rfl, hE⟩
      exact ⟨_, rfl, hK _ _ ⟨hE, rfl⟩⟩
    refine ⟨⟨fun _ _ => trivial, fun ρ w' hX hG hk => ?_⟩, ?_⟩
    · obtain ⟨k0, k1, k2, -⟩ := hk
      have e0 : ρ (.tmp 25) = Value.bool true := k0
      have e1 : ρ (.tmp 34) = Value.bool true := k1
      have e2 : ρ (Operand.const (Value.bool false)) = (Value.bool false) := k2
      clear k0 k1 k2
      refine Par.val_k fun K hK => ?_
      unfold Par.val
      (go_simp; exact hK _ _ ⟨Ext.refl _, rfl⟩)
    refine ⟨⟨fun _ _ => trivial, fun ρ w' hX hG hk => ?_⟩, ?_⟩
    · exact Par.val_of_run rfl ⟨Ext.refl _, hk.1⟩
    trivial
  intro a' w' inv
  have hX := inv.ext
  have q5 : a'.tmps.getD 5 undef = pv q1 := inv.done 0 _ 5 rfl rfl rfl
  have q6 : a'.tmps.getD 6 undef = pv q1 := inv.done 1 _ 6 rfl rfl rfl
  have q7 : a'.tmps.getD 7 undef = Value.pointer (some ⟨q1, 1, none⟩) := inv.done 2 _ 7 rfl rfl rfl
  have q8 : a'.tmps.getD 8 undef = vU s.last := inv.done 3 _ 8 rfl rfl rfl
  have q9 : a'.tmps.getD 9 undef = pv q2 := inv.done 4 _ 9 rfl rfl rfl
  have q10 : a'.tmps.getD 10 undef = pv q2 := inv.done 5 _ 10 rfl rfl rfl
  have q11 : a'.tmps.getD 11 undef = Value.pointer (some ⟨q2, 1, none⟩) := inv.done 6 _ 11 rfl rfl rfl
  have q12 : a'.tmps.getD 12 undef = vU s.last := inv.done 7 _ 12 rfl rfl rfl
  have q13 : a'.tmps.getD 13 undef = Value.bool true := inv.done 8 _ 13 rfl rfl rfl
  have q14 : a'.tmps.getD 14 undef = Value.bool true := inv.done 9 _ 14 rfl rfl rfl
  have q15 : a'.tmps.getD 15 undef = pv q1 := inv.done 10 _ 15 rfl rfl rfl
  have q16 : a'.tmps.getD 16 undef = pv q1 := inv.done 11 _ 16 rfl rfl rfl
  have q17 : a'.tmps.getD 17 undef = Value.pointer (some ⟨q1, 0, none⟩) := inv.done 12 _ 17 rfl rfl rfl
  have q18 : a'.tmps.getD 18 undef = Value.slice o1 s.rows.length c1 := inv.done 13 _ 18 rfl rfl rfl
  have q19 : a'.tmps.getD 19 undef = pv q2 := inv.done 14 _ 19 rfl rfl rfl
  have q20 : a'.tmps.getD 20 undef = pv q2 := inv.done 15 _ 20 rfl rfl rfl
  have q21 : a'.tmps.getD 21 undef = Value.pointer (some ⟨q2, 0, none⟩) := inv.done 16 _ 21 rfl rfl rfl
  have q22 : a'.tmps.getD 22 undef = Value.slice o2 s.rows.length c2 := inv.done 17 _ 22 rfl rfl rfl
  have q23 : a'.tmps.getD 23 undef = Value.bool true := inv.done 18 _ 23 rfl rfl rfl
  have q24 : a'.tmps.getD 24 undef = Value.bool true := inv.done 19 _ 24 rfl rfl rfl
  have q25 : a'.tmps.getD 25 undef = Value.bool true := inv.done 20 _ 25 rfl rfl rfl
  have q26 : a'.tmps.getD 26 undef = pv q1 := inv.done 21 _ 26 rfl rfl rfl
  have q27 : a'.tmps.getD 27 undef = pv q1 := inv.done 22 _ 27 rfl rfl rfl
  have q28 : a'.tmps.getD 28 undef = Value.pointer (some ⟨q1, 2, none⟩) := inv.done 23 _ 28 rfl rfl rfl
  have q29 : a'.tmps.getD 29 undef = Value.slice o3 s.seen.length c3 := inv.done 24 _ 29 rfl rfl rfl
  have q30 : a'.tmps.getD 30 undef = pv q2 := inv.done 25 _ 30 rfl rfl rfl
  have q31 : a'.tmps.getD 31 undef = pv q2 := inv.done 26 _ 31 rfl rfl rfl
  have q32 : a'.tmps.getD 32 undef = Value.pointer (some ⟨q2, 2, none⟩) := inv.done 27 _ 32 rfl rfl rfl
  have q33 : a'.tmps.getD 33 undef = Value.slice o4 s.seen.length c4 := inv.done 28 _ 33 rfl rfl rfl
  have q34 : a'.tmps.getD 34 undef = Value.bool true := inv.done 29 _ 34 rfl rfl rfl
  have q35 : a'.tmps.getD 35 undef = Value.bool true := inv.done 30 _ 35 rfl rfl rfl
  have q4 : a'.tmps.getD 4 undef = Value.bool true := inv.done 31 _ 4 rfl rfl rfl
  clear inv
  simp only [List.filterMap_cons, List.filterMap_nil, Par.putAll, Act.put, List.setIfInBounds_toArray, List.set_cons_succ, List.set_cons_zero, q5, q6, q7, q8, q9, q10, q11, q12, q13, q14, q15, q16, q17, q18, q19, q20, q21, q22, q23, q24, q25, q26, q27, q28, q29, q30, q31, q32, q33, q34, q35, q4]
  clear q5 q6 q7 q8 q9 q10 q11 q12 q13 q14 q15 q16 q17 q18 q19 q20 q21 q22 q23 q24 q25 q26 q27 q28 q29 q30 q31 q32 q33 q34 q35 q4
  clear a'
  have HX := hid hX
  clear hX
  go_wp2
  go_returns
  exact ⟨rfl, HX.out⟩
end Go.Proofs.YtfpljeblehieiaaDoor
