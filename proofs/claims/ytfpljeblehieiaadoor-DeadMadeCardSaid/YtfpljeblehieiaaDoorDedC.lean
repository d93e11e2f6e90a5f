/- The dead: cmp's functions, byPlace. -/
import Derived.Test.YtfpljeblehieiaaDoorDedB
set_option linter.unusedSimpArgs false
set_option linter.unusedVariables false
namespace Go.Proofs.YtfpljeblehieiaaDoor
open Go Go.RowKit Go.Tum Go.ChangeMaps Go.Sort
open Go.ParB (upd Lof)
open Go.ParE (putS slotsR slots Closed)

theorem Grw.refl (w : World) : Grw w w := ⟨0, #[], by simp [World.drewN, grow]⟩
theorem Grw.draw (w : World) : Grw w { w with drawn := w.drawn + 1 } := ⟨1, #[], by rw [grow_empty]; rfl⟩
theorem Grw.alloc (w : World) (o : Obj) : Grw w (w.alloc o) := ⟨0, #[o], by rw [alloc_eq_grow]; rfl⟩
theorem Grw.trans {a b c : World} (h : Grw a b) (k : Grw b c) : Grw a c := by
  obtain ⟨q, os, rfl⟩ := h
  obtain ⟨q2, os2, rfl⟩ := k
  exact ⟨q + q2, os ++ os2, by simp [World.drewN, grow, Nat.add_assoc, Array.append_assoc]⟩
theorem Grw.ext {a b : World} (h : Grw a b) : Ext a b := by
  obtain ⟨q, os, rfl⟩ := h
  exact ⟨rfl, rfl, rfl, by simp [World.drewN, grow], fun k hk => by simp [World.drewN, grow, Array.getElem?_append, hk]⟩
def cmpU (x y : UInt64) : Int := if x < y then -1 else if y < x then 1 else 0
theorem nan_any (x : UInt64) (w : World) : Calls Tryd.prog 79 #[vU x] w fun e w' => e = .returned (.bool false) ∧ w = w' := by
  go_enter Tryd.func79, Tryd.ntmps79
  go_wp2
  go_ret
  exact ⟨by simp, rfl⟩
set_option maxHeartbeats 1000000 in
theorem compare_any (x y : UInt64) (w : World) : Calls Tryd.prog 52 #[vU x, vU y] w fun e w' => e = .returned (.int .i64 (cmpU x y)) ∧ w = w' := by
  unfold cmpU
  by_cases h1 : x < y
  · have e1 : decide (x.toNat < y.toNat) = true := by simpa using UInt64.lt_iff_toNat_lt.1 h1
    rw [if_pos h1]
    clear h1
    go_enter Tryd.func52, Tryd.ntmps52
    go_wp2_with fail
    refine (nan_any x w).mono ?_
    rintro e w1 ⟨rfl, rfl⟩
    go_wp2_with fail
    refine (nan_any y w).mono ?_
    rintro e w1 ⟨rfl, rfl⟩
    go_wp2
    go_ret
    exact ⟨rfl, rfl⟩
  · have e1 : decide (x.toNat < y.toNat) = false := by rw [UInt64.lt_iff_toNat_lt] at h1; simpa using h1
    rw [if_neg h1]
    clear h1
    by_cases h2 : y < x
    · have e2 : decide (y.toNat < x.toNat) = true := by simpa using UInt64.lt_iff_toNat_lt.1 h2
      rw [if_pos h2]
      clear h2
      go_enter Tryd.func52, Tryd.ntmps52
      go_wp2_with fail
      refine (nan_any x w).mono ?_
      rintro e w1 ⟨rfl, rfl⟩
      go_wp2_with fail
      refine (nan_any y w).mono ?_
      rintro e w1 ⟨rfl, rfl⟩
      go_wp2
      go_ret
      exact ⟨rfl, rfl⟩
    · have e2 : decide (y.toNat < x.toNat) = false := by rw [UInt64.lt_iff_toNat_lt] at h2; simpa using h2
      rw [if_neg h2]
      clear h2
      go_enter Tryd.func52, Tryd.ntmps52
      go_wp2_with fail
      refine (nan_any x w).mono ?_
      rintro e w1 ⟨rfl, rfl⟩
      go_wp2_with fail
      refine (nan_any y w).mono ?_
      rintro e w1 ⟨rfl, rfl⟩
      go_wp2
      go_ret
      exact ⟨rfl, rfl⟩
def or2 (a b : Int) : Int := if a ≠ 0 then a else b
set_option maxHeartbeats 1000000 in
theorem or_any (a b : Int) (g : Nat) (w : World) (e : Nat) (h : w.heap[g]? = some (.cells #[.int .i64 a, .int .i64 b] e (0, 0))) :
    Calls Tryd.prog 51 #[.slice (some ⟨g, 0, none⟩) 2 2] w fun e w' => e = .returned (.int .i64 (or2 a b)) ∧ w = w' := by
  obtain ⟨c0, c1, -⟩ := lk2 h
  clear h
  go_enter Tryd.func51, Tryd.ntmps51
  go_wp2
  go_loopw [8] (fun i wr => ∃ k : Nat, k ≤ 2 ∧ i = .int .i64 k ∧ (1 ≤ k → a = 0) ∧ (2 ≤ k → b = 0) ∧ wr = w) (fun i _ => 2 - (intOf i).toNat)
  case atStart => exact ⟨0, by omega, rfl, by omega, by omega, rfl⟩
  case round =>
    obtain ⟨k, hk, rfl, h1, h2, rfl⟩ := hrel
    rcases (show k = 0 ∨ k = 1 ∨ k = 2 by omega) with rfl | rfl | rfl
    · by_cases ha : a = 0
      · have ea : (a != 0) = false := by simp [ha]
        have HA := hid ha
        clear ha h1 h2
        go_wp2
        go_roundw
        case rel => exact ⟨1, by omega, by go_num, fun _ => HA.out, fun h => by omega, trivial⟩
        case measure => simp [intOf]
      · have ea : (a != 0) = true := by simpa using ha
        have HA := hid ha
        clear ha h1 h2
        go_wp2
        go_ret
        exact ⟨by unfold or2; rw [if_pos HA.out]; rfl, rfl⟩
    · have HA := hid (h1 (by omega))
      clear h1 h2
      by_cases hb : b = 0
      · have eb : (b != 0) = false := by simp [hb]
        have HB := hid hb
        clear hb
        go_wp2
        go_roundw
        case rel => exact ⟨2, by omega, by go_num, fun _ => HA.out, fun _ => HB.out, trivial⟩
        case measure => simp [intOf]
      · have eb : (b != 0) = true := by simpa using hb
        have HB := hid hb
        clear hb
        go_wp2
        go_ret
        exact ⟨by unfold or2; rw [if_neg (by simp [HA.out])]; rfl, rfl⟩
    · have HA := hid (h1 (by omega))
      have HB := hid (h2 (by omega))
      clear h1 h2
      go_wp2
      go_ret
      exact ⟨by unfold or2; rw [if_neg (by simp [HA.out]), HB.out]; rfl, rfl⟩
def cfP (a b : UInt64 × UInt64) : Int := or2 (cmpU a.2 b.2) (cmpU a.1 b.1)
abbrev encR (x : UInt64 × UInt64) : List Value := [vU x.1, vU x.2]
def ByQ (W : World) (a b : UInt64 × UInt64) (i : Nat) (σ : Nat → Value) (w' : World) : Prop := Grw W w' ∧ match i with
  | 1 => ∃ g e, σ 15 = .slice (some ⟨g, 0, none⟩) 2 2 ∧ w'.heap[g]? = some (.cells #[.int .i64 (cmpU a.2 b.2), .int .i64 (cmpU a.1 b.1)] e (0, 0))
  | _ => True
set_option maxRecDepth 100000 in
set_option maxHeartbeats 1000000 in
theorem byPlace_any (a b : UInt64 × UInt64) (w : World) : Calls Tryd.prog 43 #[.agg (encR a).toArray, .agg (encR b).toArray] w fun e w' => e = .returned (.int .i64 (cfP a b)) ∧ Grw w w' := by
  obtain ⟨a1, a2⟩ := a
  obtain ⟨b1, b2⟩ := b
  show Calls Tryd.prog 43 #[.agg #[vU a1, vU a2], .agg #[vU b1, vU b2]] w fun e w' => e = .returned (.int .i64 (cfP (a1, a2) (b1, b2))) ∧ Grw w w'
  have HB0 := (Ext.alloc _ _).obj (heap_alloc_new w (.cells #[vU a1, vU a2] 48 (0, 0))) (w' := (w.alloc (.cells #[vU a1, vU a2] 48 (0, 0))).alloc (.cells #[vU b1, vU b2] 48 (0, 0)))
  have HB1 := heap_alloc_new (w.alloc (.cells #[vU a1, vU a2] 48 (0, 0))) (.cells #[vU b1, vU b2] 48 (0, 0))
  have HG : Hid (Grw w ((w.alloc (.cells #[vU a1, vU a2] 48 (0, 0))).alloc (.cells #[vU b1, vU b2] 48 (0, 0)))) := hid ((Grw.alloc _ _).trans (Grw.alloc _ _))
  rw [World.size_alloc] at HB1
  go_enter Tryd.func43, Tryd.ntmps43
  go_wp2_with fail
  generalize (w.alloc (.cells #[vU a1, vU a2] 48 (0, 0))).alloc (.cells #[vU b1, vU b2] 48 (0, 0)) = W1 at *
  have H0 := hid HB0
  have H1 := hid HB1
  clear HB0 HB1
  refine ParE.wp_region_e (l := [_, _, _, _, _, _, _, _, _, _, _, _, _]) rfl (Rg.Ch [10] [15] (ByQ W1 (a1, a2) (b1, b2))) (ParC.VC [ParC.EQ (Value.pointer (some ⟨w.heap.size, 1, none⟩)), ParC.EQ (vU a2), ParC.EQ (Value.pointer (some ⟨w.heap.size + 1, 1, none⟩)), ParC.EQ (vU b2), ParC.EQ (Value.int IntKind.i64 (cmpU a2 b2)), ParC.EQ (Value.pointer (some ⟨w.heap.size, 0, none⟩)), ParC.EQ (vU a1), ParC.EQ (Value.pointer (some ⟨w.heap.size + 1, 0, none⟩)), ParC.EQ (vU b1), ParC.EQ (Value.int IntKind.i64 (cmpU a1 b1)), (fun _ => True), ParC.EQ (Value.int IntKind.i64 (or2 (cmpU a2 b2) (cmpU a1 b1))), ParC.EQ (Value.int IntKind.i64 (or2 (cmpU a2 b2) (cmpU a1 b1)))]) (by kernel_rfl) (by kernel_rfl) (Rg.Ch.start ⟨Grw.draw _, trivial⟩) ?_ ?_
  · refine ⟨fun L ρ w' hR hC hL hd hk => ?_, ?_⟩
    · obtain ⟨k0, -⟩ := hk
      have e0 : ρ (.tmp 2) = Value.pointer (some ⟨w.heap.size, 0, none⟩) := k0
      clear k0
      refine Par.val_k fun K hK => ?_
      unfold Par.val
      (go_simp; exact hK _ _ ⟨hR.other (by decide), rfl⟩)
    refine ⟨fun L ρ w' hR hC hL hd hk => ?_, ?_⟩
    · obtain ⟨k0, -⟩ := hk
      have e0 : ρ (.tmp 5) = Value.pointer (some ⟨w.heap.size, 1, none⟩) := k0
      clear k0
      refine Par.val_k fun K hK => ?_
      unfold Par.val
      (obtain ⟨i, -, -, hx, -⟩ := hR.ex; have cc := (lk2 (hx.ext.obj H0.out)).2.1; go_simp; exact hK _ _ ⟨hR.other (by decide), rfl⟩)
    refine ⟨fun L ρ w' hR hC hL hd hk => ?_, ?_⟩
    · obtain ⟨k0, -⟩ := hk
      have e0 : ρ (.tmp 3) = Value.pointer (some ⟨w.heap.size + 1, 0, none⟩) := k0
      clear k0
      refine Par.val_k fun K hK => ?_
      unfold Par.val
      (go_simp; exact hK _ _ ⟨hR.other (by decide), rfl⟩)
    refine ⟨fun L ρ w' hR hC hL hd hk => ?_, ?_⟩
    · obtain ⟨k0, -⟩ := hk
      have e0 : ρ (.tmp 7) = Value.pointer (some ⟨w.heap.size + 1, 1, none⟩) := k0
      clear k0
      refine Par.val_k fun K hK => ?_
      unfold Par.val
      (obtain ⟨i, -, -, hx, -⟩ := hR.ex; have cc := (lk2 (hx.ext.obj H1.out)).2.1; go_simp; exact hK _ _ ⟨hR.other (by decide), rfl⟩)
    refine ⟨fun L ρ w' hR hC hL hd hk => ?_, ?_⟩
    · obtain ⟨k0, k1, k2, -⟩ := hk
      have e0 := k0
      have e1 : ρ (.tmp 6) = vU a2 := k1
      have e2 : ρ (.tmp 8) = vU b2 := k2
      clear k0 k1 k2
      refine Par.val_k fun K hK => ?_
      unfold Par.val
      (refine Par.val_call Tryd.func52 (by kernel_rfl) rfl e0 ?_; simp only [List.map_toArray, List.map_cons, List.map_nil, e1, e2]; refine (compare_any a2 b2 _).mono ?_; rintro e w2 ⟨rfl, rfl⟩; exact ⟨_, rfl, hK _ _ ⟨hR.other (by decide), rfl⟩⟩)
    refine ⟨fun L ρ w' hR hC hL hd hk => ?_, ?_⟩
    · obtain ⟨k0, -⟩ := hk
      have e0 : ρ (.tmp 2) = Value.pointer (some ⟨w.heap.size, 0, none⟩) := k0
      clear k0
      refine Par.val_k fun K hK => ?_
      unfold Par.val
      (go_simp; exact hK _ _ ⟨hR.other (by decide), rfl⟩)
    refine ⟨fun L ρ w' hR hC hL hd hk => ?_, ?_⟩
    · obtain ⟨k0, -⟩ := hk
      have e0 : ρ (.tmp 10) = Value.pointer (some ⟨w.heap.size, 0, none⟩) := k0
      clear k0
      refine Par.val_k fun K hK => ?_
      unfold Par.val
      (obtain ⟨i, -, -, hx, -⟩ := hR.ex; have cc := (lk2 (hx.ext.obj H0.out)).1; go_simp; exact hK _ _ ⟨hR.other (by decide), rfl⟩)
    refine ⟨fun L ρ w' hR hC hL hd hk => ?_, ?_⟩
    · obtain ⟨k0, -⟩ := hk
      have e0 : ρ (.tmp 3) = Value.pointer (some ⟨w.heap.size + 1, 0, none⟩) := k0
      clear k0
      refine Par.val_k fun K hK => ?_
      unfold Par.val
      (go_simp; exact hK _ _ ⟨hR.other (by decide), rfl⟩)
    refine ⟨fun L ρ w' hR hC hL hd hk => ?_, ?_⟩
    · obtain ⟨k0, -⟩ := hk
      have e0 : ρ (.tmp 12) = Value.pointer (some ⟨w.heap.size + 1, 0, none⟩) := k0
      clear k0
      refine Par.val_k fun K hK => ?_
      unfold Par.val
      (obtain ⟨i, -, -, hx, -⟩ := hR.ex; have cc := (lk2 (hx.ext.obj H1.out)).1; go_simp; exact hK _ _ ⟨hR.other (by decide), rfl⟩)
    refine ⟨fun L ρ w' hR hC hL hd hk => ?_, ?_⟩
    · obtain ⟨k0, k1, k2, -⟩ := hk
      have e0 := k0
      have e1 : ρ (.tmp 11) = vU a1 := k1
      have e2 : ρ (.tmp 13) = vU b1 := k2
      clear k0 k1 k2
      refine Par.val_k fun K hK => ?_
      unfold Par.val
      (refine Par.val_call Tryd.func52 (by kernel_rfl) rfl e0 ?_; simp only [List.map_toArray, List.map_cons, List.map_nil, e1, e2]; refine (compare_any a1 b1 _).mono ?_; rintro e w2 ⟨rfl, rfl⟩; exact ⟨_, rfl, hK _ _ ⟨hR.other (by decide), rfl⟩⟩)
    refine ⟨fun L ρ w' hR hC hL hd hk => ?_, ?_⟩
    · obtain ⟨k0, k1, -⟩ := hk
      have e0 : ρ (.tmp 9) = Value.int IntKind.i64 (cmpU a2 b2) := k0
      have e1 : ρ (.tmp 14) = Value.int IntKind.i64 (cmpU a1 b1) := k1
      clear k0 k1
      refine Par.val_k fun K hK => ?_
      unfold Par.val
      (obtain ⟨hq, hs⟩ := hR.go 0 rfl hL (.inl rfl) (by decide); have hx := hq.1; go_simp; exact hK _ _ ⟨hs _ _ _ ⟨hx.trans (Grw.alloc _ _), _, _, rfl, heap_alloc_new _ _⟩, trivial⟩)
    refine ⟨fun L ρ w' hR hC hL hd hk => ?_, ?_⟩
    · obtain ⟨k0, k1, -⟩ := hk
      have e0 := k0
      have e1 : (fun _ => True) (ρ (.tmp 15))  := k1
      clear k0 k1
      refine Par.val_k fun K hK => ?_
      unfold Par.val
      (have h10 := hC.before 10 (i := 11) rfl hd (by kernel_rfl); obtain ⟨i, hi, hl, hx, hm⟩ := hR.ex; obtain rfl : i = 1 := (by have := hl 0 10 rfl; rw [h10] at this; simp at this hi; omega); obtain ⟨g, e9, hg1, hg2⟩ := hm; have e3 : ρ (.tmp 15) = .slice (some ⟨g, 0, none⟩) 2 2 := hg1; refine Par.val_call Tryd.func51 (by kernel_rfl) rfl e0 ?_; simp only [List.map_toArray, List.map_cons, List.map_nil, e3]; refine (or_any _ _ g _ _ hg2).mono ?_; rintro e w2 ⟨rfl, rfl⟩; exact ⟨_, rfl, hK _ _ ⟨hR.other (by decide), rfl⟩⟩)
    refine ⟨fun L ρ w' hR hC hL hd hk => ?_, ?_⟩
    · exact Par.val_of_run rfl ⟨hR.other (by decide), hk.1⟩
    trivial
  intro a' w' inv hR
  have q5 : a'.tmps.getD 5 undef = Value.pointer (some ⟨w.heap.size, 1, none⟩) := inv.done 0 _ 5 rfl rfl rfl
  have q6 : a'.tmps.getD 6 undef = vU a2 := inv.done 1 _ 6 rfl rfl rfl
  have q7 : a'.tmps.getD 7 undef = Value.pointer (some ⟨w.heap.size + 1, 1, none⟩) := inv.done 2 _ 7 rfl rfl rfl
  have q8 : a'.tmps.getD 8 undef = vU b2 := inv.done 3 _ 8 rfl rfl rfl
  have q9 : a'.tmps.getD 9 undef = Value.int IntKind.i64 (cmpU a2 b2) := inv.done 4 _ 9 rfl rfl rfl
  have q10 : a'.tmps.getD 10 undef = Value.pointer (some ⟨w.heap.size, 0, none⟩) := inv.done 5 _ 10 rfl rfl rfl
  have q11 : a'.tmps.getD 11 undef = vU a1 := inv.done 6 _ 11 rfl rfl rfl
  have q12 : a'.tmps.getD 12 undef = Value.pointer (some ⟨w.heap.size + 1, 0, none⟩) := inv.done 7 _ 12 rfl rfl rfl
  have q13 : a'.tmps.getD 13 undef = vU b1 := inv.done 8 _ 13 rfl rfl rfl
  have q14 : a'.tmps.getD 14 undef = Value.int IntKind.i64 (cmpU a1 b1) := inv.done 9 _ 14 rfl rfl rfl
  have q15 : (fun _ => True) (a'.tmps.getD 15 undef)  := inv.done 10 _ 15 rfl rfl rfl
  have q16 : a'.tmps.getD 16 undef = Value.int IntKind.i64 (or2 (cmpU a2 b2) (cmpU a1 b1)) := inv.done 11 _ 16 rfl rfl rfl
  have q4 : a'.tmps.getD 4 undef = Value.int IntKind.i64 (or2 (cmpU a2 b2) (cmpU a1 b1)) := inv.done 12 _ 4 rfl rfl rfl
  clear inv
  simp only [List.filterMap_cons, List.filterMap_nil, Par.putAll, Act.put, List.setIfInBounds_toArray, List.set_cons_succ, List.set_cons_zero, q5, q6, q7, q8, q9, q10, q11, q12, q13, q14, q16, q4]
  clear q5 q6 q7 q8 q9 q10 q11 q12 q13 q14 q16 q4
  obtain ⟨hx, -⟩ := Rg.Ch.fin hR (by decide) 1 rfl; have HX := hid hx; clear hx hR
  generalize a'.tmps.getD 15 undef = u15 at *
  try clear a'
  go_wp2
  go_ret
  exact ⟨rfl, HG.out.trans HX.out⟩
end Go.Proofs.YtfpljeblehieiaaDoor
