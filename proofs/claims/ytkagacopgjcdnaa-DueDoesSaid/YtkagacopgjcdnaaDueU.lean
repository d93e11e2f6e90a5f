/- DueDoes. -/
import Derived.Test.YtkagacopgjcdnaaDueT
set_option linter.unusedSimpArgs false
set_option linter.unusedVariables false
namespace Go.Proofs.Ytkagacopgjcdnaa
open Go Go.RowKit Go.Tum Go.ChangeMaps Go.Tum.Hp
open Go.ParB (upd Lof)
open Go.ParE (putS slotsR slots Closed)

theorem putE_len (E : List Ent) (x a : UInt64) : (putE E x a).length ≤ E.length + 1 := by
  unfold putE
  split
  · omega
  · rw [insE_len]; exact Nat.le_refl _
theorem movE_len (E : List Ent) (x a : UInt64) : (movE E x a).length ≤ E.length + 1 := by
  unfold movE
  split
  · rw [insE_len]; have := delE_len E x; omega
  · omega
theorem fstE_tuple (E : List Ent) : ∃ h0 a0 n0, fstE E = .tuple #[vU h0, vU a0, .bool n0] := by
  cases E with
  | nil => exact ⟨0, 0, false, rfl⟩
  | cons z M => exact ⟨z.1, z.2, true, rfl⟩
theorem atE_tuple (E : List Ent) (x : UInt64) : ∃ (t0 : UInt64) (n0 : Bool), atE E x = .tuple #[vU t0, .bool n0] := by
  unfold atE
  cases h : lkE E x with
  | none => exact ⟨0, false, rfl⟩
  | some t =>
    obtain ⟨a, rfl, -⟩ := lkE_ex h
    exact ⟨a, true, rfl⟩

set_option maxRecDepth 100000 in
set_option maxHeartbeats 2000000 in
theorem dueDoes_law (v : Value) (X : List Act3) (id : UInt64) (w : World) (hb : RowsOf w 3 v a3cells X) :
    Calls Try.prog 3 #[v, vU id] w fun e w' => e = .returned (.bool true) ∧ Ext w w' := by
  obtain ⟨ao, cap, rfl, hle, hm, hnn, hcell⟩ := hb.open
  have HC := hid hcell
  have HNN := hid hnn
  clear hb hcell hnn
  go_enter Try.func3, Try.ntmps3
  go_wp2_with fail
  refine (awake_any _).mono ?_
  rintro e w1 ⟨rfl, hw⟩
  have HE1 := hid hw
  clear hw
  by_cases h1 : 200 < X.length
  · have hd : decide ((200 : Int) < X.length) = true := by simp; omega
    go_wp2
    go_ret
    exact ⟨rfl, HE1.out⟩
  have hd : decide ((200 : Int) < X.length) = false := by simp; omega
  go_wp2_with fail
  clear hd
  refine (hnew_any _ w.heap.size HE1.out.size).mono ?_
  rintro e w2 ⟨p, mt, mp, rfl, H2, E2⟩
  have HE2 : Hid (Ext w w2) := hid (HE1.out.trans E2)
  have HL2 := hid H2
  clear H2 E2 HE1
  have HE3 : Hid (Ext w (w2.alloc (.cells #[.slice none 0 0] 30))) := hid (HE2.out.trans (Ext.alloc _ _))
  have HL3 := hid (HL2.out.ext (Ext.alloc w2 (.cells #[.slice none 0 0] 30)))
  have HR3 : Hid (RH w.heap.size (w2.alloc (.cells #[.slice none 0 0] 30)) w2.heap.size []) := hid ⟨_, heap_alloc_new _ _, OwE.nil _ _⟩
  have HBr := hid HE2.out.size
  clear HL2 HE2
  go_wp2
  obtain ⟨r, hr⟩ : ∃ r, w2.heap.size = r := ⟨_, rfl⟩
  rw [hr] at HR3 HBr
  rw [hr]
  clear hr
  go_loopw [36] (fun i wr => ∃ (k : Nat) (row : List UInt64) (rv : Value) (At : UInt64 → Option Int) (E : List Ent), k ≤ X.length ∧ i = .int .i64 k ∧ Hid (E.length ≤ k) ∧ Hid (HB w.heap.size wr p mt mp At row rv) ∧ Hid (RH w.heap.size wr r E) ∧ Hid (Mt At E) ∧ Hid (Ext w wr)) (fun i _ => X.length - (intOf i).toNat)
  case atStart => exact ⟨0, [], _, _, [], by omega, rfl, hid (Nat.le_refl _), HL3, HR3, hid mt_nil, HE3⟩
  case round =>
    obtain ⟨k, row, rv, At, E, hk, rfl, HN, HL, HR, HM, HE⟩ := hrel
    by_cases hlt : k < X.length
    · obtain ⟨a0, rfl⟩ := HNN.out (by omega)
      have c0 := cell_first (HE.out.cell (HC.out a0 rfl k hlt 0 _ rfl))
      have c1 := cell_next (HE.out.cell (HC.out a0 rfl k hlt 1 _ rfl)) (by decide)
      have c2 := cell_next (HE.out.cell (HC.out a0 rfl k hlt 2 _ rfl)) (by decide)
      obtain ⟨d, hd⟩ : ∃ d, X[k].1 = d := ⟨_, rfl⟩
      obtain ⟨x, hx⟩ : ∃ x, X[k].2.1 = x := ⟨_, rfl⟩
      obtain ⟨a, ha⟩ : ∃ a, X[k].2.2 = a := ⟨_, rfl⟩
      rw [hd] at c0
      rw [hx] at c1
      rw [ha] at c2
      clear hd hx ha
      have hi1 : decide ((k : Int) < X.length) = true := by simp; omega
      have HL4 := hid (HL.out.ext (Ext.alloc wr (actO d x a)))
      have HR4 := hid (HR.out.ext (Ext.alloc wr (actO d x a)))
      have HE4 : Hid (Ext w (wr.alloc (actO d x a))) := hid (HE.out.trans (Ext.alloc wr (actO d x a)))
      have HB4 := hid (heap_alloc_new wr (actO d x a))
      by_cases hd0 : d = 0
      · subst hd0
        go_wp2_with fail
        obtain ⟨BB, hBB⟩ : ∃ BB, decide (x ∉ E.map Prod.fst) = BB := ⟨_, rfl⟩
        have HBB := hid hBB
        clear hBB
        have HN5 : Hid ((putE E x a).length ≤ k + 1) := hid (by have := putE_len E x a; have := HN.out; omega)
        have HM5 := hid (mt_putA HM.out x a)
        refine ParE.wp_region_e (l := [_, _, _, _, _, _, _, _, _, _, _, _, _, _]) rfl (R2 5 11 w p mt mp r wr.heap.size At (putA E At x a) row rv E (putE E x a) 0 x a) (ParC.VC [ParC.EQ (pv p), ParC.EQ (Value.pointer (some ⟨wr.heap.size, 1, none⟩)), ParC.EQ (vU x), ParC.EQ (Value.pointer (some ⟨wr.heap.size, 2, none⟩)), ParC.EQ (vU a), ParC.EQ (Value.bool BB), ParC.EQ (pv r), ParC.EQ (Value.pointer (some ⟨wr.heap.size, 1, none⟩)), ParC.EQ (vU x), ParC.EQ (Value.pointer (some ⟨wr.heap.size, 2, none⟩)), ParC.EQ (vU a), ParC.EQ (Value.bool BB), ParC.EQ (Value.bool true), ParC.EQ (Value.bool true)]) (by kernel_rfl) (by kernel_rfl) (R2.start HE4.out HB4.out HL4.out HR4.out) ?_ ?_
        · refine ⟨fun L ρ w' hR hC hL hd hk => ?_, ?_⟩
          · exact Par.val_of_run rfl ⟨hR.other (by decide), hk.1⟩
          refine ⟨fun L ρ w' hR hC hL hd hk => ?_, ?_⟩
          · obtain ⟨k0, -⟩ := hk
            have e0 : ρ (.tmp 8) = Value.pointer (some ⟨wr.heap.size, 0, none⟩) := k0
            clear k0
            refine Par.val_k fun K hK => ?_
            unfold Par.val
            (go_simp; exact hK _ _ ⟨hR.other (by decide), rfl⟩)
          refine ⟨fun L ρ w' hR hC hL hd hk => ?_, ?_⟩
          · obtain ⟨k0, -⟩ := hk
            have e0 : ρ (.tmp 45) = Value.pointer (some ⟨wr.heap.size, 1, none⟩) := k0
            clear k0
            refine Par.val_k fun K hK => ?_
            unfold Par.val
            (have c := (lk3 hR.box).2.1; go_simp; exact hK _ _ ⟨hR.other (by decide), rfl⟩)
          refine ⟨fun L ρ w' hR hC hL hd hk => ?_, ?_⟩
          · obtain ⟨k0, -⟩ := hk
            have e0 : ρ (.tmp 8) = Value.pointer (some ⟨wr.heap.size, 0, none⟩) := k0
            clear k0
            refine Par.val_k fun K hK => ?_
            unfold Par.val
            (go_simp; exact hK _ _ ⟨hR.other (by decide), rfl⟩)
          refine ⟨fun L ρ w' hR hC hL hd hk => ?_, ?_⟩
          · obtain ⟨k0, -⟩ := hk
            have e0 : ρ (.tmp 47) = Value.pointer (some ⟨wr.heap.size, 2, none⟩) := k0
            clear k0
            refine Par.val_k fun K hK => ?_
            unfold Par.val
            (have c := (lk3 hR.box).2.2.1; go_simp; exact hK _ _ ⟨hR.other (by decide), rfl⟩)
          refine ⟨fun L ρ w' hR hC hL hd hk => ?_, ?_⟩
          · obtain ⟨k0, k1, k2, k3, -⟩ := hk
            have e0 := k0
            have e1 : ρ (.tmp 44) = pv p := k1
            have e2 : ρ (.tmp 46) = vU x := k2
            have e3 : ρ (.tmp 48) = vU a := k3
            clear k0 k1 k2 k3
            refine Par.val_k fun K hK => ?_
            unfold Par.val
            refine Par.val_call Try.func8 (by kernel_rfl) rfl e0 ?_
            simp only [List.map_toArray, List.map_cons, List.map_nil, e1, e2, e3]
            refine (hput_b x a (hR.s0 hL).1 HM.out (by have := HN.out; omega) hR.ext.size).mono ?_
            rintro e w2 ⟨rfl, row3, v3, H3, F3, b3⟩
            exact ⟨_, rfl, hK _ _ ⟨hR.three hL (hC.notyet 11 5 hL (by kernel_rfl)) (by decide) H3 F3 b3, (congrArg Value.bool HBB.out)⟩⟩
          refine ⟨fun L ρ w' hR hC hL hd hk => ?_, ?_⟩
          · exact Par.val_of_run rfl ⟨hR.other (by decide), hk.1⟩
          refine ⟨fun L ρ w' hR hC hL hd hk => ?_, ?_⟩
          · obtain ⟨k0, -⟩ := hk
            have e0 : ρ (.tmp 8) = Value.pointer (some ⟨wr.heap.size, 0, none⟩) := k0
            clear k0
            refine Par.val_k fun K hK => ?_
            unfold Par.val
            (go_simp; exact hK _ _ ⟨hR.other (by decide), rfl⟩)
          refine ⟨fun L ρ w' hR hC hL hd hk => ?_, ?_⟩
          · obtain ⟨k0, -⟩ := hk
            have e0 : ρ (.tmp 51) = Value.pointer (some ⟨wr.heap.size, 1, none⟩) := k0
            clear k0
            refine Par.val_k fun K hK => ?_
            unfold Par.val
            (have c := (lk3 hR.box).2.1; go_simp; exact hK _ _ ⟨hR.other (by decide), rfl⟩)
          refine ⟨fun L ρ w' hR hC hL hd hk => ?_, ?_⟩
          · obtain ⟨k0, -⟩ := hk
            have e0 : ρ (.tmp 8) = Value.pointer (some ⟨wr.heap.size, 0, none⟩) := k0
            clear k0
            refine Par.val_k fun K hK => ?_
            unfold Par.val
            (go_simp; exact hK _ _ ⟨hR.other (by decide), rfl⟩)
          refine ⟨fun L ρ w' hR hC hL hd hk => ?_, ?_⟩
          · obtain ⟨k0, -⟩ := hk
            have e0 : ρ (.tmp 53) = Value.pointer (some ⟨wr.heap.size, 2, none⟩) := k0
            clear k0
            refine Par.val_k fun K hK => ?_
            unfold Par.val
            (have c := (lk3 hR.box).2.2.1; go_simp; exact hK _ _ ⟨hR.other (by decide), rfl⟩)
          refine ⟨fun L ρ w' hR hC hL hd hk => ?_, ?_⟩
          · obtain ⟨k0, k1, k2, k3, -⟩ := hk
            have e0 := k0
            have e1 : ρ (.tmp 50) = pv r := k1
            have e2 : ρ (.tmp 52) = vU x := k2
            have e3 : ρ (.tmp 54) = vU a := k3
            clear k0 k1 k2 k3
            refine Par.val_k fun K hK => ?_
            unfold Par.val
            have hI := hC.before 5 (i := 11) rfl hd (by kernel_rfl)
            refine Par.val_call Try.func9 (by kernel_rfl) rfl e0 ?_
            simp only [List.map_toArray, List.map_cons, List.map_nil, e1, e2, e3]
            refine (rhput_b x a (hR.s1 hI hL).2 (by have := HN.out; omega) hR.ext.size).mono ?_
            rintro e w2 ⟨rfl, R3, F3⟩
            exact ⟨_, rfl, hK _ _ ⟨hR.seven hI hL (by decide) R3 F3 HBr.out hR.ext.size, (congrArg Value.bool HBB.out)⟩⟩
          refine ⟨fun L ρ w' hR hC hL hd hk => ?_, ?_⟩
          · obtain ⟨k0, k1, -⟩ := hk
            have e0 : ρ (.tmp 49) = Value.bool BB := k0
            have e1 : ρ (.tmp 55) = Value.bool BB := k1
            clear k0 k1
            refine Par.val_k fun K hK => ?_
            unfold Par.val
            (go_simp; exact hK _ _ ⟨hR.other (by decide), rfl⟩)
          refine ⟨fun L ρ w' hR hC hL hd hk => ?_, ?_⟩
          · exact Par.val_of_run rfl ⟨hR.other (by decide), hk.1⟩
          trivial
        intro a' w' inv hR
        have q44 : a'.tmps.getD 44 undef = pv p := inv.done 0 _ 44 rfl rfl rfl
        have q45 : a'.tmps.getD 45 undef = Value.pointer (some ⟨wr.heap.size, 1, none⟩) := inv.done 1 _ 45 rfl rfl rfl
        have q46 : a'.tmps.getD 46 undef = vU x := inv.done 2 _ 46 rfl rfl rfl
        have q47 : a'.tmps.getD 47 undef = Value.pointer (some ⟨wr.heap.size, 2, none⟩) := inv.done 3 _ 47 rfl rfl rfl
        have q48 : a'.tmps.getD 48 undef = vU a := inv.done 4 _ 48 rfl rfl rfl
        have q49 : a'.tmps.getD 49 undef = Value.bool BB := inv.done 5 _ 49 rfl rfl rfl
        have q50 : a'.tmps.getD 50 undef = pv r := inv.done 6 _ 50 rfl rfl rfl
        have q51 : a'.tmps.getD 51 undef = Value.pointer (some ⟨wr.heap.size, 1, none⟩) := inv.done 7 _ 51 rfl rfl rfl
        have q52 : a'.tmps.getD 52 undef = vU x := inv.done 8 _ 52 rfl rfl rfl
        have q53 : a'.tmps.getD 53 undef = Value.pointer (some ⟨wr.heap.size, 2, none⟩) := inv.done 9 _ 53 rfl rfl rfl
        have q54 : a'.tmps.getD 54 undef = vU a := inv.done 10 _ 54 rfl rfl rfl
        have q55 : a'.tmps.getD 55 undef = Value.bool BB := inv.done 11 _ 55 rfl rfl rfl
        have q56 : a'.tmps.getD 56 undef = Value.bool true := inv.done 12 _ 56 rfl rfl rfl
        have q9 : a'.tmps.getD 9 undef = Value.bool true := inv.done 13 _ 9 rfl rfl rfl
        clear inv
        simp only [List.filterMap_cons, List.filterMap_nil, Par.putAll, Act.put, List.setIfInBounds_toArray, List.set_cons_succ, List.set_cons_zero, q44, q45, q46, q47, q48, q49, q50, q51, q52, q53, q54, q55, q56, q9]
        clear q44 q45 q46 q47 q48 q49 q50 q51 q52 q53 q54 q55 q56 q9
        try clear a'
        obtain ⟨⟨row5, rv5, L5⟩, R5⟩ := hR.s2 rfl
        have HE5 : Hid (Ext w _) := hid hR.ext
        have HL5 := hid L5
        have HR5 := hid R5
        clear L5 R5 hR HL4 HR4 HE4 HB4 HBB HL HR HE HN c0 c1 c2
        obtain ⟨J, hJ⟩ : ∃ J, putE E x a = J := ⟨_, rfl⟩
        obtain ⟨AJ, hAJ⟩ : ∃ AJ, putA E At x a = AJ := ⟨_, rfl⟩
        rw [hJ] at HR5 HN5 HM5
        rw [hAJ] at HL5 HM5
        clear hJ hAJ
        try clear a'
        go_wp2_with fail
        refine (hfirst_b HL5.out HM5.out).mono ?_
        rintro e w6 ⟨rfl, E6⟩
        obtain ⟨h0, t0, n0, hf0⟩ := fstE_tuple J
        rw [hf0]
        have HF0 := hid hf0
        have HL6 := hid (HL5.out.ext E6)
        have HR6 := hid (HR5.out.ext E6)
        have HE6 : Hid (Ext w w6) := hid (HE5.out.trans E6)
        clear hf0 E6 HL5 HR5 HE5
        go_wp2_with fail
        refine (rhfirst_any w.heap.size _ r J HR6.out).mono ?_
        rintro e w7 ⟨he, E7⟩
        rw [HF0.out] at he
        subst he
        have HL7 := hid (HL6.out.ext E7)
        have HR7 := hid (HR6.out.ext E7)
        have HE7 : Hid (Ext w w7) := hid (HE6.out.trans E7)
        clear E7 HL6 HR6 HE6 HF0
        obtain ⟨t1, n1, hf1⟩ := atE_tuple J id
        have HF1 := hid hf1
        clear hf1
        go_wp2_with fail
        refine (hat_b id HL7.out HM5.out).mono ?_
        rintro e w8 ⟨rfl, rfl⟩
        rw [HF1.out]
        go_wp2_with fail
        refine (rhat_any w.heap.size _ r J id HR7.out).mono ?_
        rintro e w8 ⟨he, rfl⟩
        rw [HF1.out] at he
        subst he
        obtain ⟨rvv, hr6, ho6⟩ := HR7.out
        obtain ⟨ro, rc, rfl⟩ := ho6.shape
        have KR := hid (box1 hr6).1
        clear hr6 ho6 HF1
        go_wp2_with fail
        refine Par.wp_region_par (l := [_, _, _, _, _, _, _, _, _, _, _, _, _, _, _, _, _, _, _, _, _, _, _, _, _, _, _, _, _, _, _, _, _, _, _, _, _]) rfl Ext (Par.VL [Par.EQ (Value.bool true), Par.EQ (Value.bool false), Par.EQ (Value.bool false), Par.EQ (vU h0), Par.EQ (vU h0), Par.EQ (Value.bool false), Par.EQ (Value.bool false), Par.EQ (Value.bool false), Par.EQ (vU t0), Par.EQ (vU t0), Par.EQ (Value.bool false), Par.EQ (Value.bool false), Par.EQ (Value.bool false), Par.EQ (Value.bool n0), Par.EQ (Value.bool n0), Par.EQ (Value.bool false), Par.EQ (Value.bool false), Par.EQ (Value.bool false), Par.EQ (vU t1), Par.EQ (vU t1), Par.EQ (Value.bool false), Par.EQ (Value.bool false), Par.EQ (Value.bool false), Par.EQ (Value.bool n1), Par.EQ (Value.bool n1), Par.EQ (Value.bool false), Par.EQ (Value.bool false), Par.EQ (Value.bool false), Par.EQ (pv p), Par.EQ (Value.int IntKind.i64 (J.length : Nat)), Par.EQ (pv r), Par.EQ (pv r), Par.EQ (pv r), Par.EQ (Value.slice ro J.length rc), Par.EQ (Value.int IntKind.i64 (J.length : Nat)), Par.EQ (Value.bool false), Par.EQ (Value.bool false)]) (by kernel_rfl) Ext.refl (fun _ _ _ h1 h2 => Ext.trans h1 h2) (Ext.draw _) (Par.VL_stab ?_) ?_ ?_
        · simp only [List.forall_mem_cons, List.not_mem_nil, false_implies, implies_true, and_true]
          refine ⟨fun _ _ _ _ h => h, fun _ _ _ _ h => h, fun _ _ _ _ h => h, fun _ _ _ _ h => h, fun _ _ _ _ h => h, fun _ _ _ _ h => h, fun _ _ _ _ h => h, fun _ _ _ _ h => h, fun _ _ _ _ h => h, fun _ _ _ _ h => h, fun _ _ _ _ h => h, fun _ _ _ _ h => h, fun _ _ _ _ h => h, fun _ _ _ _ h => h, fun _ _ _ _ h => h, fun _ _ _ _ h => h, fun _ _ _ _ h => h, fun _ _ _ _ h => h, fun _ _ _ _ h => h, fun _ _ _ _ h => h, fun _ _ _ _ h => h, fun _ _ _ _ h => h, fun _ _ _ _ h => h, fun _ _ _ _ h => h, fun _ _ _ _ h => h, fun _ _ _ _ h => h, fun _ _ _ _ h => h, fun _ _ _ _ h => h, fun _ _ _ _ h => h, fun _ _ _ _ h => h, fun _ _ _ _ h => h, fun _ _ _ _ h => h, fun _ _ _ _ h => h, fun _ _ _ _ h => h, fun _ _ _ _ h => h, fun _ _ _ _ h => h, fun _ _ _ _ h => h⟩
        · refine ⟨⟨fun _ _ => trivial, fun ρ w' hX hG hk => ?_⟩, ?_⟩
          · exact Par.val_of_run rfl ⟨Ext.refl _, hk.1⟩
          refine ⟨⟨fun _ _ => trivial, fun ρ w' hX hG hk => ?_⟩, ?_⟩
          · obtain ⟨k0, -⟩ := hk
            have e0 : ρ (.tmp 138) = Value.bool true := k0
            clear k0
            refine Par.val_k fun K hK => ?_
            unfold Par.val
            (go_simp; exact hK _ _ ⟨Ext.refl _, rfl⟩)
          refine ⟨⟨fun _ _ => trivial, fun ρ w' hX hG hk => ?_⟩, ?_⟩
          · exact Par.val_of_run rfl ⟨Ext.refl _, hk.1⟩
          refine ⟨⟨fun _ _ u hu => .inl hu, fun ρ w' hX hG hk => ?_⟩, ?_⟩
          · exact Par.val_of_run rfl ⟨Ext.refl _, hk.1⟩
          refine ⟨⟨fun _ _ u hu => .inl hu, fun ρ w' hX hG hk => ?_⟩, ?_⟩
          · exact Par.val_of_run rfl ⟨Ext.refl _, hk.1⟩
          refine ⟨⟨fun _ _ u hu => .inl hu, fun ρ w' hX hG hk => ?_⟩, ?_⟩
          · obtain ⟨k0, k1, -⟩ := hk
            have e0 : ρ (.tmp 141) = vU h0 := k0
            have e1 : ρ (.tmp 142) = vU h0 := k1
            clear k0 k1
            refine Par.val_k fun K hK => ?_
            unfold Par.val
            (go_simp; exact hK _ _ ⟨Ext.refl _, rfl⟩)
          refine ⟨⟨fun _ _ => trivial, fun ρ w' hX hG hk => ?_⟩, ?_⟩
          · obtain ⟨k0, k1, k2, -⟩ := hk
            have e0 : ρ (.tmp 140) = Value.bool false := k0
            have e1 : ρ (Operand.const (Value.bool true)) = (Value.bool true) := k1
            have e2 : ρ (.tmp 143) = Value.bool false := k2
            clear k0 k1 k2
            refine Par.val_k fun K hK => ?_
            unfold Par.val
            (go_simp; exact hK _ _ ⟨Ext.refl _, rfl⟩)
          refine ⟨⟨fun _ _ => trivial, fun ρ w' hX hG hk => ?_⟩, ?_⟩
          · exact Par.val_of_run rfl ⟨Ext.refl _, hk.1⟩
          refine ⟨⟨fun _ _ u hu => .inl hu, fun ρ w' hX hG hk => ?_⟩, ?_⟩
          · exact Par.val_of_run rfl ⟨Ext.refl _, hk.1⟩
          refine ⟨⟨fun _ _ u hu => .inl hu, fun ρ w' hX hG hk => ?_⟩, ?_⟩
          · exact Par.val_of_run rfl ⟨Ext.refl _, hk.1⟩
          refine ⟨⟨fun _ _ u hu => .inl hu, fun ρ w' hX hG hk => ?_⟩, ?_⟩
          · obtain ⟨k0, k1, -⟩ := hk
            have e0 : ρ (.tmp 146) = vU t0 := k0
            have e1 : ρ (.tmp 147) = vU t0 := k1
            clear k0 k1
            refine Par.val_k fun K hK => ?_
            unfold Par.val
            (go_simp; exact hK _ _ ⟨Ext.refl _, rfl⟩)
          refine ⟨⟨fun _ _ => trivial, fun ρ w' hX hG hk => ?_⟩, ?_⟩
          · obtain ⟨k0, k1, k2, -⟩ := hk
            have e0 : ρ (.tmp 145) = Value.bool false := k0
            have e1 : ρ (Operand.const (Value.bool true)) = (Value.bool true) := k1
            have e2 : ρ (.tmp 148) = Value.bool false := k2
            clear k0 k1 k2
            refine Par.val_k fun K hK => ?_
            unfold Par.val
            (go_simp; exact hK _ _ ⟨Ext.refl _, rfl⟩)
          refine ⟨⟨fun _ _ => trivial, fun ρ w' hX hG hk => ?_⟩, ?_⟩
          · exact Par.val_of_run rfl ⟨Ext.refl _, hk.1⟩
          refine ⟨⟨fun _ _ u hu => .inl hu, fun ρ w' hX hG hk => ?_⟩, ?_⟩
          · exact Par.val_of_run rfl ⟨Ext.refl _, hk.1⟩
          refine ⟨⟨fun _ _ u hu => .inl hu, fun ρ w' hX hG hk => ?_⟩, ?_⟩
          · exact Par.val_of_run rfl ⟨Ext.refl _, hk.1⟩
          refine ⟨⟨fun _ _ u hu => .inl hu, fun ρ w' hX hG hk => ?_⟩, ?_⟩
          · obtain ⟨k0, k1, -⟩ := hk
            have e0 : ρ (.tmp 151) = Value.bool n0 := k0
            have e1 : ρ (.tmp 152) = Value.bool n0 := k1
            clear k0 k1
            refine Par.val_k fun K hK => ?_
            unfold Par.val
            (go_simp; exact hK _ _ ⟨Ext.refl _, rfl⟩)
          refine ⟨⟨fun _ _ => trivial, fun ρ w' hX hG hk => ?_⟩, ?_⟩
          · obtain ⟨k0, k1, k2, -⟩ := hk
            have e0 : ρ (.tmp 150) = Value.bool false := k0
            have e1 : ρ (Operand.const (Value.bool true)) = (Value.bool true) := k1
            have e2 : ρ (.tmp 153) = Value.bool false := k2
            clear k0 k1 k2
            refine Par.val_k fun K hK => ?_
            unfold Par.val
            (go_simp; exact hK _ _ ⟨Ext.refl _, rfl⟩)
          refine ⟨⟨fun _ _ => trivial, fun ρ w' hX hG hk => ?_⟩, ?_⟩
          · exact Par.val_of_run rfl ⟨Ext.refl _, hk.1⟩
          refine ⟨⟨fun _ _ u hu => .inl hu, fun ρ w' hX hG hk => ?_⟩, ?_⟩
          · exact Par.val_of_run rfl ⟨Ext.refl _, hk.1⟩
          refine ⟨⟨fun _ _ u hu => .inl hu, fun ρ w' hX hG hk => ?_⟩, ?_⟩
          · exact Par.val_of_run rfl ⟨Ext.refl _, hk.1⟩
          refine ⟨⟨fun _ _ u hu => .inl hu, fun ρ w' hX hG hk => ?_⟩, ?_⟩
          · obtain ⟨k0, k1, -⟩ := hk
            have e0 : ρ (.tmp 156) = vU t1 := k0
            have e1 : ρ (.tmp 157) = vU t1 := k1
            clear k0 k1
            refine Par.val_k fun K hK => ?_
            unfold Par.val
            (go_simp; exact hK _ _ ⟨Ext.refl _, rfl⟩)
          refine ⟨⟨fun _ _ => trivial, fun ρ w' hX hG hk => ?_⟩, ?_⟩
          · obtain ⟨k0, k1, k2, -⟩ := hk
            have e0 : ρ (.tmp 155) = Value.bool false := k0
            have e1 : ρ (Operand.const (Value.bool true)) = (Value.bool true) := k1
            have e2 : ρ (.tmp 158) = Value.bool false := k2
            clear k0 k1 k2
            refine Par.val_k fun K hK => ?_
            unfold Par.val
            (go_simp; exact hK _ _ ⟨Ext.refl _, rfl⟩)
          refine ⟨⟨fun _ _ => trivial, fun ρ w' hX hG hk => ?_⟩, ?_⟩
          · exact Par.val_of_run rfl ⟨Ext.refl _, hk.1⟩
          refine ⟨⟨fun _ _ u hu => .inl hu, fun ρ w' hX hG hk => ?_⟩, ?_⟩
          · exact Par.val_of_run rfl ⟨Ext.refl _, hk.1⟩
          refine ⟨⟨fun _ _ u hu => .inl hu, fun ρ w' hX hG hk => ?_⟩, ?_⟩
          · exact Par.val_of_run rfl ⟨Ext.refl _, hk.1⟩
          refine ⟨⟨fun _ _ u hu => .inl hu, fun ρ w' hX hG hk => ?_⟩, ?_⟩
          · obtain ⟨k0, k1, -⟩ := hk
            have e0 : ρ (.tmp 161) = Value.bool n1 := k0
            have e1 : ρ (.tmp 162) = Value.bool n1 := k1
            clear k0 k1
            refine Par.val_k fun K hK => ?_
            unfold Par.val
            (go_simp; exact hK _ _ ⟨Ext.refl _, rfl⟩)
          refine ⟨⟨fun _ _ => trivial, fun ρ w' hX hG hk => ?_⟩, ?_⟩
          · obtain ⟨k0, k1, k2, -⟩ := hk
            have e0 : ρ (.tmp 160) = Value.bool false := k0
            have e1 : ρ (Operand.const (Value.bool true)) = (Value.bool true) := k1
            have e2 : ρ (.tmp 163) = Value.bool false := k2
            clear k0 k1 k2
            refine Par.val_k fun K hK => ?_
            unfold Par.val
            (go_simp; exact hK _ _ ⟨Ext.refl _, rfl⟩)
          refine ⟨⟨fun _ _ => trivial, fun ρ w' hX hG hk => ?_⟩, ?_⟩
          · exact Par.val_of_run rfl ⟨Ext.refl _, hk.1⟩
          refine ⟨⟨fun _ _ u hu => .inl hu, fun ρ w' hX hG hk => ?_⟩, ?_⟩
          · exact Par.val_of_run rfl ⟨Ext.refl _, hk.1⟩
          refine ⟨⟨fun _ _ u hu => .inl hu, fun ρ w' hX hG hk => ?_⟩, ?_⟩
          · obtain ⟨k0, k1, -⟩ := hk
            have e0 := k0
            have e1 : ρ (.tmp 166) = pv p := k1
            clear k0 k1
            refine Par.val_k fun K hK => ?_
            unfold Par.val
            refine Par.val_call Try.func20 (by kernel_rfl) rfl e0 ?_
            simp only [List.map_toArray, List.map_cons, List.map_nil, e1]
            refine (hlen_b (HL7.out.ext hX) HM5.out).mono ?_
            rintro e w2 ⟨rfl, rfl⟩
            exact ⟨_, rfl, hK _ _ ⟨Ext.refl _, rfl⟩⟩
          refine ⟨⟨fun _ _ u hu => .inl hu, fun ρ w' hX hG hk => ?_⟩, ?_⟩
          · exact Par.val_of_run rfl ⟨Ext.refl _, hk.1⟩
          refine ⟨⟨fun _ _ u hu => .inl hu, fun ρ w' hX hG hk => ?_⟩, ?_⟩
          · obtain ⟨k0, -⟩ := hk
            have e0 : ρ (.tmp 168) = pv r := k0
            clear k0
            refine Par.val_k fun K hK => ?_
            unfold Par.val
            (go_simp; exact hK _ _ ⟨Ext.refl _, rfl⟩)
          refine ⟨⟨fun _ _ u hu => .inl hu, fun ρ w' hX hG hk => ?_⟩, ?_⟩
          · obtain ⟨k0, -⟩ := hk
            have e0 : ρ (.tmp 169) = pv r := k0
            clear k0
            refine Par.val_k fun K hK => ?_
            unfold Par.val
            (go_simp; exact hK _ _ ⟨Ext.refl _, rfl⟩)
          refine ⟨⟨fun _ _ u hu => .inl hu, fun ρ w' hX hG hk => ?_⟩, ?_⟩
          · obtain ⟨k0, -⟩ := hk
            have e0 : ρ (.tmp 170) = pv r := k0
            clear k0
            refine Par.val_k fun K hK => ?_
            unfold Par.val
            (have c := hX.cell KR.out; go_simp; exact hK _ _ ⟨Ext.refl _, rfl⟩)
          refine ⟨⟨fun _ _ u hu => .inl hu, fun ρ w' hX hG hk => ?_⟩, ?_⟩
          · obtain ⟨k0, -⟩ := hk
            have e0 : ρ (.tmp 171) = Value.slice ro J.length rc := k0
            clear k0
            refine Par.val_k fun K hK => ?_
            unfold Par.val
            (go_simp; exact hK _ _ ⟨Ext.refl _, rfl⟩)
          refine ⟨⟨fun _ _ u hu => .inl hu, fun ρ w' hX hG hk => ?_⟩, ?_⟩
          · obtain ⟨k0, k1, -⟩ := hk
            have e0 : ρ (.tmp 167) = Value.int IntKind.i64 (J.length : Nat) := k0
            have e1 : ρ (.tmp 172) = Value.int IntKind.i64 (J.length : Nat) := k1
            clear k0 k1
            refine Par.val_k fun K hK => ?_
            unfold Par.val
            (go_simp; exact hK _ _ ⟨Ext.refl _, rfl⟩)
          refine ⟨⟨fun _ _ => trivial, fun ρ w' hX hG hk => ?_⟩, ?_⟩
          · obtain ⟨k0, k1, k2, -⟩ := hk
            have e0 : ρ (.tmp 165) = Value.bool false := k0
            have e1 : ρ (Operand.const (Value.bool true)) = (Value.bool true) := k1
            have e2 : ρ (.tmp 173) = Value.bool false := k2
            clear k0 k1 k2
            refine Par.val_k fun K hK => ?_
            unfold Par.val
            (go_simp; exact hK _ _ ⟨Ext.refl _, rfl⟩)
          trivial
        intro a' w' inv
        have hX := inv.ext
        have q138 : a'.tmps.getD 138 undef = Value.bool true := inv.done 0 _ 138 rfl rfl rfl
        have q139 : a'.tmps.getD 139 undef = Value.bool false := inv.done 1 _ 139 rfl rfl rfl
        have q140 : a'.tmps.getD 140 undef = Value.bool false := inv.done 2 _ 140 rfl rfl rfl
        have q141 : a'.tmps.getD 141 undef = vU h0 := inv.done 3 _ 141 rfl rfl rfl
        have q142 : a'.tmps.getD 142 undef = vU h0 := inv.done 4 _ 142 rfl rfl rfl
        have q143 : a'.tmps.getD 143 undef = Value.bool false := inv.done 5 _ 143 rfl rfl rfl
        have q144 : a'.tmps.getD 144 undef = Value.bool false := inv.done 6 _ 144 rfl rfl rfl
        have q145 : a'.tmps.getD 145 undef = Value.bool false := inv.done 7 _ 145 rfl rfl rfl
        have q146 : a'.tmps.getD 146 undef = vU t0 := inv.done 8 _ 146 rfl rfl rfl
        have q147 : a'.tmps.getD 147 undef = vU t0 := inv.done 9 _ 147 rfl rfl rfl
        have q148 : a'.tmps.getD 148 undef = Value.bool false := inv.done 10 _ 148 rfl rfl rfl
        have q149 : a'.tmps.getD 149 undef = Value.bool false := inv.done 11 _ 149 rfl rfl rfl
        have q150 : a'.tmps.getD 150 undef = Value.bool false := inv.done 12 _ 150 rfl rfl rfl
        have q151 : a'.tmps.getD 151 undef = Value.bool n0 := inv.done 13 _ 151 rfl rfl rfl
        have q152 : a'.tmps.getD 152 undef = Value.bool n0 := inv.done 14 _ 152 rfl rfl rfl
        have q153 : a'.tmps.getD 153 undef = Value.bool false := inv.done 15 _ 153 rfl rfl rfl
        have q154 : a'.tmps.getD 154 undef = Value.bool false := inv.done 16 _ 154 rfl rfl rfl
        have q155 : a'.tmps.getD 155 undef = Value.bool false := inv.done 17 _ 155 rfl rfl rfl
        have q156 : a'.tmps.getD 156 undef = vU t1 := inv.done 18 _ 156 rfl rfl rfl
        have q157 : a'.tmps.getD 157 undef = vU t1 := inv.done 19 _ 157 rfl rfl rfl
        have q158 : a'.tmps.getD 158 undef = Value.bool false := inv.done 20 _ 158 rfl rfl rfl
        have q159 : a'.tmps.getD 159 undef = Value.bool false := inv.done 21 _ 159 rfl rfl rfl
        have q160 : a'.tmps.getD 160 undef = Value.bool false := inv.done 22 _ 160 rfl rfl rfl
        have q161 : a'.tmps.getD 161 undef = Value.bool n1 := inv.done 23 _ 161 rfl rfl rfl
        have q162 : a'.tmps.getD 162 undef = Value.bool n1 := inv.done 24 _ 162 rfl rfl rfl
        have q163 : a'.tmps.getD 163 undef = Value.bool false := inv.done 25 _ 163 rfl rfl rfl
        have q164 : a'.tmps.getD 164 undef = Value.bool false := inv.done 26 _ 164 rfl rfl rfl
        have q165 : a'.tmps.getD 165 undef = Value.bool false := inv.done 27 _ 165 rfl rfl rfl
        have q166 : a'.tmps.getD 166 undef = pv p := inv.done 28 _ 166 rfl rfl rfl
        have q167 : a'.tmps.getD 167 undef = Value.int IntKind.i64 (J.length : Nat) := inv.done 29 _ 167 rfl rfl rfl
        have q168 : a'.tmps.getD 168 undef = pv r := inv.done 30 _ 168 rfl rfl rfl
        have q169 : a'.tmps.getD 169 undef = pv r := inv.done 31 _ 169 rfl rfl rfl
        have q170 : a'.tmps.getD 170 undef = pv r := inv.done 32 _ 170 rfl rfl rfl
        have q171 : a'.tmps.getD 171 undef = Value.slice ro J.length rc := inv.done 33 _ 171 rfl rfl rfl
        have q172 : a'.tmps.getD 172 undef = Value.int IntKind.i64 (J.length : Nat) := inv.done 34 _ 172 rfl rfl rfl
        have q173 : a'.tmps.getD 173 undef = Value.bool false := inv.done 35 _ 173 rfl rfl rfl
        have q174 : a'.tmps.getD 174 undef = Value.bool false := inv.done 36 _ 174 rfl rfl rfl
        clear inv
        simp only [List.filterMap_cons, List.filterMap_nil, Par.putAll, Act.put, List.setIfInBounds_toArray, List.set_cons_succ, List.set_cons_zero, q138, q139, q140, q141, q142, q143, q144, q145, q146, q147, q148, q149, q150, q151, q152, q153, q154, q155, q156, q157, q158, q159, q160, q161, q162, q163, q164, q165, q166, q167, q168, q169, q170, q171, q172, q173, q174]
        clear q138 q139 q140 q141 q142 q143 q144 q145 q146 q147 q148 q149 q150 q151 q152 q153 q154 q155 q156 q157 q158 q159 q160 q161 q162 q163 q164 q165 q166 q167 q168 q169 q170 q171 q172 q173 q174
        clear a'
        have HL8 := hid (HL7.out.ext hX)
        have HR8 := hid (HR7.out.ext hX)
        have HE8 : Hid (Ext w _) := hid (HE7.out.trans hX)
        clear hX HL7 HR7 HE7 KR
        go_wp2
        go_roundw
        case rel => exact ⟨k + 1, row5, rv5, AJ, J, by omega, by go_num, HN5, HL8, HR8, HM5, HE8⟩
        case measure => simp [intOf]; omega
      have hd0' : (d == (0 : Int)) = false := by simp [hd0]
      clear hd0
      by_cases hd1 : d = 1
      · subst hd1
        go_wp2_with fail
        refine (htake_b a HL4.out HM.out (by have := HN.out; omega) HE4.out.size).mono ?_
        rintro e w3 ⟨rfl, row5, rv5, L5, F5, b5⟩
        obtain ⟨h0, t0, n0, hf0⟩ := tkV_tuple E a
        rw [hf0]
        have HF0 := hid hf0
        have HR5 := hid (HR4.out.due HL4.out F5)
        have HL5 := hid L5
        have HE5 : Hid (Ext w w3) := hid (Below.trans HE4.out b5)
        have HB5 := hid ((F5.block _ (Array.getElem?_eq_some_iff.1 HB4.out).1 (HL4.out.nblk HB4.out)).trans HB4.out)
        obtain ⟨-, -, c5, -⟩ := lk3 HB5.out
        have HM5 := hid (mt_tkA HM.out a)
        clear hf0 L5 F5 b5 HL4 HR4 HE4 HB4 c0 c1 c2
        go_wp2_with fail
        refine (rhtake_b a HR5.out HM.out (by have := HN.out; omega) HE5.out.size).mono ?_
        rintro e w5 ⟨he, R6, F6⟩
        rw [HF0.out] at he
        subst he
        have HL6 := hid (HL5.out.ref HR5.out F6)
        have HE6 : Hid (Ext w w5) := hid (Below.trans HE5.out (fr_one F6 HBr.out HE5.out.size))
        have HR6 := hid R6
        have HN5 : Hid ((tkE E a).length ≤ k + 1) := hid (by have := tkE_len E a; have := HN.out; omega)
        clear R6 F6 HL5 HR5 HE5 HB5 HL HR HE HN c5
        obtain ⟨J, hJ⟩ : ∃ J, tkE E a = J := ⟨_, rfl⟩
        obtain ⟨AJ, hAJ⟩ : ∃ AJ, tkA E At a = AJ := ⟨_, rfl⟩
        rw [hJ] at HR6 HN5 HM5
        rw [hAJ] at HL6 HM5
        clear hJ hAJ
        have HL5 := HL6
        have HR5 := HR6
        have HE5 := HE6
        clear HL6 HR6 HE6
        go_wp2_with fail
        refine (hfirst_b HL5.out HM5.out).mono ?_
        rintro e w6 ⟨rfl, E6⟩
        obtain ⟨h0, t0, n0, hf0⟩ := fstE_tuple J
        rw [hf0]
        have HF0 := hid hf0
        have HL6 := hid (HL5.out.ext E6)
        have HR6 := hid (HR5.out.ext E6)
        have HE6 : Hid (Ext w w6) := hid (HE5.out.trans E6)
        clear hf0 E6 HL5 HR5 HE5
        go_wp2_with fail
        refine (rhfirst_any w.heap.size _ r J HR6.out).mono ?_
        rintro e w7 ⟨he, E7⟩
        rw [HF0.out] at he
        subst he
        have HL7 := hid (HL6.out.ext E7)
        have HR7 := hid (HR6.out.ext E7)
        have HE7 : Hid (Ext w w7) := hid (HE6.out.trans E7)
        clear E7 HL6 HR6 HE6 HF0
        obtain ⟨t1, n1, hf1⟩ := atE_tuple J id
        have HF1 := hid hf1
        clear hf1
        go_wp2_with fail
        refine (hat_b id HL7.out HM5.out).mono ?_
        rintro e w8 ⟨rfl, rfl⟩
        rw [HF1.out]
        go_wp2_with fail
        refine (rhat_any w.heap.size _ r J id HR7.out).mono ?_
        rintro e w8 ⟨he, rfl⟩
        rw [HF1.out] at he
        subst he
        obtain ⟨rvv, hr6, ho6⟩ := HR7.out
        obtain ⟨ro, rc, rfl⟩ := ho6.shape
        have KR := hid (box1 hr6).1
        clear hr6 ho6 HF1
        go_wp2_with fail
        refine Par.wp_region_par (l := [_, _, _, _, _, _, _, _, _, _, _, _, _, _, _, _, _, _, _, _, _, _, _, _, _, _, _, _, _, _, _, _, _, _, _, _, _]) rfl Ext (Par.VL [Par.EQ (Value.bool true), Par.EQ (Value.bool false), Par.EQ (Value.bool false), Par.EQ (vU h0), Par.EQ (vU h0), Par.EQ (Value.bool false), Par.EQ (Value.bool false), Par.EQ (Value.bool false), Par.EQ (vU t0), Par.EQ (vU t0), Par.EQ (Value.bool false), Par.EQ (Value.bool false), Par.EQ (Value.bool false), Par.EQ (Value.bool n0), Par.EQ (Value.bool n0), Par.EQ (Value.bool false), Par.EQ (Value.bool false), Par.EQ (Value.bool false), Par.EQ (vU t1), Par.EQ (vU t1), Par.EQ (Value.bool false), Par.EQ (Value.bool false), Par.EQ (Value.bool false), Par.EQ (Value.bool n1), Par.EQ (Value.bool n1), Par.EQ (Value.bool false), Par.EQ (Value.bool false), Par.EQ (Value.bool false), Par.EQ (pv p), Par.EQ (Value.int IntKind.i64 (J.length : Nat)), Par.EQ (pv r), Par.EQ (pv r), Par.EQ (pv r), Par.EQ (Value.slice ro J.length rc), Par.EQ (Value.int IntKind.i64 (J.length : Nat)), Par.EQ (Value.bool false), Par.EQ (Value.bool false)]) (by kernel_rfl) Ext.refl (fun _ _ _ h1 h2 => Ext.trans h1 h2) (Ext.draw _) (Par.VL_stab ?_) ?_ ?_
        · simp only [List.forall_mem_cons, List.not_mem_nil, false_implies, implies_true, and_true]
          refine ⟨fun _ _ _ _ h => h, fun _ _ _ _ h => h, fun _ _ _ _ h => h, fun _ _ _ _ h => h, fun _ _ _ _ h => h, fun _ _ _ _ h => h, fun _ _ _ _ h => h, fun _ _ _ _ h => h, fun _ _ _ _ h => h, fun _ _ _ _ h => h, fun _ _ _ _ h => h, fun _ _ _ _ h => h, fun _ _ _ _ h => h, fun _ _ _ _ h => h, fun _ _ _ _ h => h, fun _ _ _ _ h => h, fun _ _ _ _ h => h, fun _ _ _ _ h => h, fun _ _ _ _ h => h, fun _ _ _ _ h => h, fun _ _ _ _ h => h, fun _ _ _ _ h => h, fun _ _ _ _ h => h, fun _ _ _ _ h => h, fun _ _ _ _ h => h, fun _ _ _ _ h => h, fun _ _ _ _ h => h, fun _ _ _ _ h => h, fun _ _ _ _ h => h, fun _ _ _ _ h => h, fun _ _ _ _ h => h, fun _ _ _ _ h => h, fun _ _ _ _ h => h, fun _ _ _ _ h => h, fun _ _ _ _ h => h, fun _ _ _ _ h => h, fun _ _ _ _ h => h⟩
        · refine ⟨⟨fun _ _ => trivial, fun ρ w' hX hG hk => ?_⟩, ?_⟩
          · exact Par.val_of_run rfl ⟨Ext.refl _, hk.1⟩
          refine ⟨⟨fun _ _ => trivial, fun ρ w' hX hG hk => ?_⟩, ?_⟩
          · obtain ⟨k0, -⟩ := hk
            have e0 : ρ (.tmp 138) = Value.bool true := k0
            clear k0
            refine Par.val_k fun K hK => ?_
            unfold Par.val
            (go_simp; exact hK _ _ ⟨Ext.refl _, rfl⟩)
          refine ⟨⟨fun _ _ => trivial, fun ρ w' hX hG hk => ?_⟩, ?_⟩
          · exact Par.val_of_run rfl ⟨Ext.refl _, hk.1⟩
          refine ⟨⟨fun _ _ u hu => .inl hu, fun ρ w' hX hG hk => ?_⟩, ?_⟩
          · exact Par.val_of_run rfl ⟨Ext.refl _, hk.1⟩
          refine ⟨⟨fun _ _ u hu => .inl hu, fun ρ w' hX hG hk => ?_⟩, ?_⟩
          · exact Par.val_of_run rfl ⟨Ext.refl _, hk.1⟩
          refine ⟨⟨fun _ _ u hu => .inl hu, fun ρ w' hX hG hk => ?_⟩, ?_⟩
          · obtain ⟨k0, k1, -⟩ := hk
            have e0 : ρ (.tmp 141) = vU h0 := k0
            have e1 : ρ (.tmp 142) = vU h0 := k1
            clear k0 k1
            refine Par.val_k fun K hK => ?_
            unfold Par.val
            (go_simp; exact hK _ _ ⟨Ext.refl _, rfl⟩)
          refine ⟨⟨fun _ _ => trivial, fun ρ w' hX hG hk => ?_⟩, ?_⟩
          · obtain ⟨k0, k1, k2, -⟩ := hk
            have e0 : ρ (.tmp 140) = Value.bool false := k0
            have e1 : ρ (Operand.const (Value.bool true)) = (Value.bool true) := k1
            have e2 : ρ (.tmp 143) = Value.bool false := k2
            clear k0 k1 k2
            refine Par.val_k fun K hK => ?_
            unfold Par.val
            (go_simp; exact hK _ _ ⟨Ext.refl _, rfl⟩)
          refine ⟨⟨fun _ _ => trivial, fun ρ w' hX hG hk => ?_⟩, ?_⟩
          · exact Par.val_of_run rfl ⟨Ext.refl _, hk.1⟩
          refine ⟨⟨fun _ _ u hu => .inl hu, fun ρ w' hX hG hk => ?_⟩, ?_⟩
          · exact Par.val_of_run rfl ⟨Ext.refl _, hk.1⟩
          refine ⟨⟨fun _ _ u hu => .inl hu, fun ρ w' hX hG hk => ?_⟩, ?_⟩
          · exact Par.val_of_run rfl ⟨Ext.refl _, hk.1⟩
          refine ⟨⟨fun _ _ u hu => .inl hu, fun ρ w' hX hG hk => ?_⟩, ?_⟩
          · obtain ⟨k0, k1, -⟩ := hk
            have e0 : ρ (.tmp 146) = vU t0 := k0
            have e1 : ρ (.tmp 147) = vU t0 := k1
            clear k0 k1
            refine Par.val_k fun K hK => ?_
            unfold Par.val
            (go_simp; exact hK _ _ ⟨Ext.refl _, rfl⟩)
          refine ⟨⟨fun _ _ => trivial, fun ρ w' hX hG hk => ?_⟩, ?_⟩
          · obtain ⟨k0, k1, k2, -⟩ := hk
            have e0 : ρ (.tmp 145) = Value.bool false := k0
            have e1 : ρ (Operand.const (Value.bool true)) = (Value.bool true) := k1
            have e2 : ρ (.tmp 148) = Value.bool false := k2
            clear k0 k1 k2
            refine Par.val_k fun K hK => ?_
            unfold Par.val
            (go_simp; exact hK _ _ ⟨Ext.refl _, rfl⟩)
          refine ⟨⟨fun _ _ => trivial, fun ρ w' hX hG hk => ?_⟩, ?_⟩
          · exact Par.val_of_run rfl ⟨Ext.refl _, hk.1⟩
          refine ⟨⟨fun _ _ u hu => .inl hu, fun ρ w' hX hG hk => ?_⟩, ?_⟩
          · exact Par.val_of_run rfl ⟨Ext.refl _, hk.1⟩
          refine ⟨⟨fun _ _ u hu => .inl hu, fun ρ w' hX hG hk => ?_⟩, ?_⟩
          · exact Par.val_of_run rfl ⟨Ext.refl _, hk.1⟩
          refine ⟨⟨fun _ _ u hu => .inl hu, fun ρ w' hX hG hk => ?_⟩, ?_⟩
          · obtain ⟨k0, k1, -⟩ := hk
            have e0 : ρ (.tmp 151) = Value.bool n0 := k0
            have e1 : ρ (.tmp 152) = Value.bool n0 := k1
            clear k0 k1
            refine Par.val_k fun K hK => ?_
            unfold Par.val
            (go_simp; exact hK _ _ ⟨Ext.refl _, rfl⟩)
          refine ⟨⟨fun _ _ => trivial, fun ρ w' hX hG hk => ?_⟩, ?_⟩
          · obtain ⟨k0, k1, k2, -⟩ := hk
            have e0 : ρ (.tmp 150) = Value.bool false := k0
            have e1 : ρ (Operand.const (Value.bool true)) = (Value.bool true) := k1
            have e2 : ρ (.tmp 153) = Value.bool false := k2
            clear k0 k1 k2
            refine Par.val_k fun K hK => ?_
            unfold Par.val
            (go_simp; exact hK _ _ ⟨Ext.refl _, rfl⟩)
          refine ⟨⟨fun _ _ => trivial, fun ρ w' hX hG hk => ?_⟩, ?_⟩
          · exact Par.val_of_run rfl ⟨Ext.refl _, hk.1⟩
          refine ⟨⟨fun _ _ u hu => .inl hu, fun ρ w' hX hG hk => ?_⟩, ?_⟩
          · exact Par.val_of_run rfl ⟨Ext.refl _, hk.1⟩
          refine ⟨⟨fun _ _ u hu => .inl hu, fun ρ w' hX hG hk => ?_⟩, ?_⟩
          · exact Par.val_of_run rfl ⟨Ext.refl _, hk.1⟩
          refine ⟨⟨fun _ _ u hu => .inl hu, fun ρ w' hX hG hk => ?_⟩, ?_⟩
          · obtain ⟨k0, k1, -⟩ := hk
            have e0 : ρ (.tmp 156) = vU t1 := k0
            have e1 : ρ (.tmp 157) = vU t1 := k1
            clear k0 k1
            refine Par.val_k fun K hK => ?_
            unfold Par.val
            (go_simp; exact hK _ _ ⟨Ext.refl _, rfl⟩)
          refine ⟨⟨fun _ _ => trivial, fun ρ w' hX hG hk => ?_⟩, ?_⟩
          · obtain ⟨k0, k1, k2, -⟩ := hk
            have e0 : ρ (.tmp 155) = Value.bool false := k0
            have e1 : ρ (Operand.const (Value.bool true)) = (Value.bool true) := k1
            have e2 : ρ (.tmp 158) = Value.bool false := k2
            clear k0 k1 k2
            refine Par.val_k fun K hK => ?_
            unfold Par.val
            (go_simp; exact hK _ _ ⟨Ext.refl _, rfl⟩)
          refine ⟨⟨fun _ _ => trivial, fun ρ w' hX hG hk => ?_⟩, ?_⟩
          · exact Par.val_of_run rfl ⟨Ext.refl _, hk.1⟩
          refine ⟨⟨fun _ _ u hu => .inl hu, fun ρ w' hX hG hk => ?_⟩, ?_⟩
          · exact Par.val_of_run rfl ⟨Ext.refl _, hk.1⟩
          refine ⟨⟨fun _ _ u hu => .inl hu, fun ρ w' hX hG hk => ?_⟩, ?_⟩
          · exact Par.val_of_run rfl ⟨Ext.refl _, hk.1⟩
          refine ⟨⟨fun _ _ u hu => .inl hu, fun ρ w' hX hG hk => ?_⟩, ?_⟩
          · obtain ⟨k0, k1, -⟩ := hk
            have e0 : ρ (.tmp 161) = Value.bool n1 := k0
            have e1 : ρ (.tmp 162) = Value.bool n1 := k1
            clear k0 k1
            refine Par.val_k fun K hK => ?_
            unfold Par.val
            (go_simp; exact hK _ _ ⟨Ext.refl _, rfl⟩)
          refine ⟨⟨fun _ _ => trivial, fun ρ w' hX hG hk => ?_⟩, ?_⟩
          · obtain ⟨k0, k1, k2, -⟩ := hk
            have e0 : ρ (.tmp 160) = Value.bool false := k0
            have e1 : ρ (Operand.const (Value.bool true)) = (Value.bool true) := k1
            have e2 : ρ (.tmp 163) = Value.bool false := k2
            clear k0 k1 k2
            refine Par.val_k fun K hK => ?_
            unfold Par.val
            (go_simp; exact hK _ _ ⟨Ext.refl _, rfl⟩)
          refine ⟨⟨fun _ _ => trivial, fun ρ w' hX hG hk => ?_⟩, ?_⟩
          · exact Par.val_of_run rfl ⟨Ext.refl _, hk.1⟩
          refine ⟨⟨fun _ _ u hu => .inl hu, fun ρ w' hX hG hk => ?_⟩, ?_⟩
          · exact Par.val_of_run rfl ⟨Ext.refl _, hk.1⟩
          refine ⟨⟨fun _ _ u hu => .inl hu, fun ρ w' hX hG hk => ?_⟩, ?_⟩
          · obtain ⟨k0, k1, -⟩ := hk
            have e0 := k0
            have e1 : ρ (.tmp 166) = pv p := k1
            clear k0 k1
            refine Par.val_k fun K hK => ?_
            unfold Par.val
            refine Par.val_call Try.func20 (by kernel_rfl) rfl e0 ?_
            simp only [List.map_toArray, List.map_cons, List.map_nil, e1]
            refine (hlen_b (HL7.out.ext hX) HM5.out).mono ?_
            rintro e w2 ⟨rfl, rfl⟩
            exact ⟨_, rfl, hK _ _ ⟨Ext.refl _, rfl⟩⟩
          refine ⟨⟨fun _ _ u hu => .inl hu, fun ρ w' hX hG hk => ?_⟩, ?_⟩
          · exact Par.val_of_run rfl ⟨Ext.refl _, hk.1⟩
          refine ⟨⟨fun _ _ u hu => .inl hu, fun ρ w' hX hG hk => ?_⟩, ?_⟩
          · obtain ⟨k0, -⟩ := hk
            have e0 : ρ (.tmp 168) = pv r := k0
            clear k0
            refine Par.val_k fun K hK => ?_
            unfold Par.val
            (go_simp; exact hK _ _ ⟨Ext.refl _, rfl⟩)
          refine ⟨⟨fun _ _ u hu => .inl hu, fun ρ w' hX hG hk => ?_⟩, ?_⟩
          · obtain ⟨k0, -⟩ := hk
            have e0 : ρ (.tmp 169) = pv r := k0
            clear k0
            refine Par.val_k fun K hK => ?_
            unfold Par.val
            (go_simp; exact hK _ _ ⟨Ext.refl _, rfl⟩)
          refine ⟨⟨fun _ _ u hu => .inl hu, fun ρ w' hX hG hk => ?_⟩, ?_⟩
          · obtain ⟨k0, -⟩ := hk
            have e0 : ρ (.tmp 170) = pv r := k0
            clear k0
            refine Par.val_k fun K hK => ?_
            unfold Par.val
            (have c := hX.cell KR.out; go_simp; exact hK _ _ ⟨Ext.refl _, rfl⟩)
          refine ⟨⟨fun _ _ u hu => .inl hu, fun ρ w' hX hG hk => ?_⟩, ?_⟩
          · obtain ⟨k0, -⟩ := hk
            have e0 : ρ (.tmp 171) = Value.slice ro J.length rc := k0
            clear k0
            refine Par.val_k fun K hK => ?_
            unfold Par.val
            (go_simp; exact hK _ _ ⟨Ext.refl _, rfl⟩)
          refine ⟨⟨fun _ _ u hu => .inl hu, fun ρ w' hX hG hk => ?_⟩, ?_⟩
          · obtain ⟨k0, k1, -⟩ := hk
            have e0 : ρ (.tmp 167) = Value.int IntKind.i64 (J.length : Nat) := k0
            have e1 : ρ (.tmp 172) = Value.int IntKind.i64 (J.length : Nat) := k1
            clear k0 k1
            refine Par.val_k fun K hK => ?_
            unfold Par.val
            (go_simp; exact hK _ _ ⟨Ext.refl _, rfl⟩)
          refine ⟨⟨fun _ _ => trivial, fun ρ w' hX hG hk => ?_⟩, ?_⟩
          · obtain ⟨k0, k1, k2, -⟩ := hk
            have e0 : ρ (.tmp 165) = Value.bool false := k0
            have e1 : ρ (Operand.const (Value.bool true)) = (Value.bool true) := k1
            have e2 : ρ (.tmp 173) = Value.bool false := k2
            clear k0 k1 k2
            refine Par.val_k fun K hK => ?_
            unfold Par.val
            (go_simp; exact hK _ _ ⟨Ext.refl _, rfl⟩)
          trivial
        intro a' w' inv
        have hX := inv.ext
        have q138 : a'.tmps.getD 138 undef = Value.bool true := inv.done 0 _ 138 rfl rfl rfl
        have q139 : a'.tmps.getD 139 undef = Value.bool false := inv.done 1 _ 139 rfl rfl rfl
        have q140 : a'.tmps.getD 140 undef = Value.bool false := inv.done 2 _ 140 rfl rfl rfl
        have q141 : a'.tmps.getD 141 undef = vU h0 := inv.done 3 _ 141 rfl rfl rfl
        have q142 : a'.tmps.getD 142 undef = vU h0 := inv.done 4 _ 142 rfl rfl rfl
        have q143 : a'.tmps.getD 143 undef = Value.bool false := inv.done 5 _ 143 rfl rfl rfl
        have q144 : a'.tmps.getD 144 undef = Value.bool false := inv.done 6 _ 144 rfl rfl rfl
        have q145 : a'.tmps.getD 145 undef = Value.bool false := inv.done 7 _ 145 rfl rfl rfl
        have q146 : a'.tmps.getD 146 undef = vU t0 := inv.done 8 _ 146 rfl rfl rfl
        have q147 : a'.tmps.getD 147 undef = vU t0 := inv.done 9 _ 147 rfl rfl rfl
        have q148 : a'.tmps.getD 148 undef = Value.bool false := inv.done 10 _ 148 rfl rfl rfl
        have q149 : a'.tmps.getD 149 undef = Value.bool false := inv.done 11 _ 149 rfl rfl rfl
        have q150 : a'.tmps.getD 150 undef = Value.bool false := inv.done 12 _ 150 rfl rfl rfl
        have q151 : a'.tmps.getD 151 undef = Value.bool n0 := inv.done 13 _ 151 rfl rfl rfl
        have q152 : a'.tmps.getD 152 undef = Value.bool n0 := inv.done 14 _ 152 rfl rfl rfl
        have q153 : a'.tmps.getD 153 undef = Value.bool false := inv.done 15 _ 153 rfl rfl rfl
        have q154 : a'.tmps.getD 154 undef = Value.bool false := inv.done 16 _ 154 rfl rfl rfl
        have q155 : a'.tmps.getD 155 undef = Value.bool false := inv.done 17 _ 155 rfl rfl rfl
        have q156 : a'.tmps.getD 156 undef = vU t1 := inv.done 18 _ 156 rfl rfl rfl
        have q157 : a'.tmps.getD 157 undef = vU t1 := inv.done 19 _ 157 rfl rfl rfl
        have q158 : a'.tmps.getD 158 undef = Value.bool false := inv.done 20 _ 158 rfl rfl rfl
        have q159 : a'.tmps.getD 159 undef = Value.bool false := inv.done 21 _ 159 rfl rfl rfl
        have q160 : a'.tmps.getD 160 undef = Value.bool false := inv.done 22 _ 160 rfl rfl rfl
        have q161 : a'.tmps.getD 161 undef = Value.bool n1 := inv.done 23 _ 161 rfl rfl rfl
        have q162 : a'.tmps.getD 162 undef = Value.bool n1 := inv.done 24 _ 162 rfl rfl rfl
        have q163 : a'.tmps.getD 163 undef = Value.bool false := inv.done 25 _ 163 rfl rfl rfl
        have q164 : a'.tmps.getD 164 undef = Value.bool false := inv.done 26 _ 164 rfl rfl rfl
        have q165 : a'.tmps.getD 165 undef = Value.bool false := inv.done 27 _ 165 rfl rfl rfl
        have q166 : a'.tmps.getD 166 undef = pv p := inv.done 28 _ 166 rfl rfl rfl
        have q167 : a'.tmps.getD 167 undef = Value.int IntKind.i64 (J.length : Nat) := inv.done 29 _ 167 rfl rfl rfl
        have q168 : a'.tmps.getD 168 undef = pv r := inv.done 30 _ 168 rfl rfl rfl
        have q169 : a'.tmps.getD 169 undef = pv r := inv.done 31 _ 169 rfl rfl rfl
        have q170 : a'.tmps.getD 170 undef = pv r := inv.done 32 _ 170 rfl rfl rfl
        have q171 : a'.tmps.getD 171 undef = Value.slice ro J.length rc := inv.done 33 _ 171 rfl rfl rfl
        have q172 : a'.tmps.getD 172 undef = Value.int IntKind.i64 (J.length : Nat) := inv.done 34 _ 172 rfl rfl rfl
        have q173 : a'.tmps.getD 173 undef = Value.bool false := inv.done 35 _ 173 rfl rfl rfl
        have q174 : a'.tmps.getD 174 undef = Value.bool false := inv.done 36 _ 174 rfl rfl rfl
        clear inv
        simp only [List.filterMap_cons, List.filterMap_nil, Par.putAll, Act.put, List.setIfInBounds_toArray, List.set_cons_succ, List.set_cons_zero, q138, q139, q140, q141, q142, q143, q144, q145, q146, q147, q148, q149, q150, q151, q152, q153, q154, q155, q156, q157, q158, q159, q160, q161, q162, q163, q164, q165, q166, q167, q168, q169, q170, q171, q172, q173, q174]
        clear q138 q139 q140 q141 q142 q143 q144 q145 q146 q147 q148 q149 q150 q151 q152 q153 q154 q155 q156 q157 q158 q159 q160 q161 q162 q163 q164 q165 q166 q167 q168 q169 q170 q171 q172 q173 q174
        clear a'
        have HL8 := hid (HL7.out.ext hX)
        have HR8 := hid (HR7.out.ext hX)
        have HE8 : Hid (Ext w _) := hid (HE7.out.trans hX)
        clear hX HL7 HR7 HE7 KR
        go_wp2
        go_roundw
        case rel => exact ⟨k + 1, row5, rv5, AJ, J, by omega, by go_num, HN5, HL8, HR8, HM5, HE8⟩
        case measure => simp [intOf]; omega
      have hd1' : (d == (1 : Int)) = false := by simp [hd1]
      clear hd1
      by_cases hd2 : d = 2
      · subst hd2
        go_wp2_with fail
        obtain ⟨BB, hBB⟩ : ∃ BB, decide (x ∈ E.map Prod.fst) = BB := ⟨_, rfl⟩
        have HBB := hid hBB
        clear hBB
        have HN5 : Hid ((delE E x).length ≤ k + 1) := hid (by have := delE_len E x; have := HN.out; omega)
        have HM5 := hid (mt_delA HM.out x)
        refine ParE.wp_region_e (l := [_, _, _, _, _, _, _, _, _, _]) rfl (R2 3 7 w p mt mp r wr.heap.size At (delA E At x) row rv E (delE E x) 2 x a) (ParC.VC [ParC.EQ (pv p), ParC.EQ (Value.pointer (some ⟨wr.heap.size, 1, none⟩)), ParC.EQ (vU x), ParC.EQ (Value.bool BB), ParC.EQ (pv r), ParC.EQ (Value.pointer (some ⟨wr.heap.size, 1, none⟩)), ParC.EQ (vU x), ParC.EQ (Value.bool BB), ParC.EQ (Value.bool true), ParC.EQ (Value.bool true)]) (by kernel_rfl) (by kernel_rfl) (R2.start HE4.out HB4.out HL4.out HR4.out) ?_ ?_
        · refine ⟨fun L ρ w' hR hC hL hd hk => ?_, ?_⟩
          · exact Par.val_of_run rfl ⟨hR.other (by decide), hk.1⟩
          refine ⟨fun L ρ w' hR hC hL hd hk => ?_, ?_⟩
          · obtain ⟨k0, -⟩ := hk
            have e0 : ρ (.tmp 8) = Value.pointer (some ⟨wr.heap.size, 0, none⟩) := k0
            clear k0
            refine Par.val_k fun K hK => ?_
            unfold Par.val
            (go_simp; exact hK _ _ ⟨hR.other (by decide), rfl⟩)
          refine ⟨fun L ρ w' hR hC hL hd hk => ?_, ?_⟩
          · obtain ⟨k0, -⟩ := hk
            have e0 : ρ (.tmp 91) = Value.pointer (some ⟨wr.heap.size, 1, none⟩) := k0
            clear k0
            refine Par.val_k fun K hK => ?_
            unfold Par.val
            (have c := (lk3 hR.box).2.1; go_simp; exact hK _ _ ⟨hR.other (by decide), rfl⟩)
          refine ⟨fun L ρ w' hR hC hL hd hk => ?_, ?_⟩
          · obtain ⟨k0, k1, k2, -⟩ := hk
            have e0 := k0
            have e1 : ρ (.tmp 90) = pv p := k1
            have e2 : ρ (.tmp 92) = vU x := k2
            clear k0 k1 k2
            refine Par.val_k fun K hK => ?_
            unfold Par.val
            refine Par.val_call Try.func12 (by kernel_rfl) rfl e0 ?_
            simp only [List.map_toArray, List.map_cons, List.map_nil, e1, e2]
            refine (hdrop_b x (hR.s0 hL).1 HM.out (by have := HN.out; omega) hR.ext.size).mono ?_
            rintro e w2 ⟨rfl, row3, v3, H3, F3, b3⟩
            exact ⟨_, rfl, hK _ _ ⟨hR.three hL (hC.notyet 7 3 hL (by kernel_rfl)) (by decide) H3 F3 b3, (congrArg Value.bool HBB.out)⟩⟩
          refine ⟨fun L ρ w' hR hC hL hd hk => ?_, ?_⟩
          · exact Par.val_of_run rfl ⟨hR.other (by decide), hk.1⟩
          refine ⟨fun L ρ w' hR hC hL hd hk => ?_, ?_⟩
          · obtain ⟨k0, -⟩ := hk
            have e0 : ρ (.tmp 8) = Value.pointer (some ⟨wr.heap.size, 0, none⟩) := k0
            clear k0
            refine Par.val_k fun K hK => ?_
            unfold Par.val
            (go_simp; exact hK _ _ ⟨hR.other (by decide), rfl⟩)
          refine ⟨fun L ρ w' hR hC hL hd hk => ?_, ?_⟩
          · obtain ⟨k0, -⟩ := hk
            have e0 : ρ (.tmp 95) = Value.pointer (some ⟨wr.heap.size, 1, none⟩) := k0
            clear k0
            refine Par.val_k fun K hK => ?_
            unfold Par.val
            (have c := (lk3 hR.box).2.1; go_simp; exact hK _ _ ⟨hR.other (by decide), rfl⟩)
          refine ⟨fun L ρ w' hR hC hL hd hk => ?_, ?_⟩
          · obtain ⟨k0, k1, k2, -⟩ := hk
            have e0 := k0
            have e1 : ρ (.tmp 94) = pv r := k1
            have e2 : ρ (.tmp 96) = vU x := k2
            clear k0 k1 k2
            refine Par.val_k fun K hK => ?_
            unfold Par.val
            have hI := hC.before 3 (i := 7) rfl hd (by kernel_rfl)
            refine Par.val_call Try.func13 (by kernel_rfl) rfl e0 ?_
            simp only [List.map_toArray, List.map_cons, List.map_nil, e1, e2]
            refine (rhdrop_b x (hR.s1 hI hL).2 HM.out (by have := HN.out; omega) hR.ext.size).mono ?_
            rintro e w2 ⟨rfl, R3, F3⟩
            exact ⟨_, rfl, hK _ _ ⟨hR.seven hI hL (by decide) R3 F3 HBr.out hR.ext.size, (congrArg Value.bool HBB.out)⟩⟩
          refine ⟨fun L ρ w' hR hC hL hd hk => ?_, ?_⟩
          · obtain ⟨k0, k1, -⟩ := hk
            have e0 : ρ (.tmp 93) = Value.bool BB := k0
            have e1 : ρ (.tmp 97) = Value.bool BB := k1
            clear k0 k1
            refine Par.val_k fun K hK => ?_
            unfold Par.val
            (go_simp; exact hK _ _ ⟨hR.other (by decide), rfl⟩)
          refine ⟨fun L ρ w' hR hC hL hd hk => ?_, ?_⟩
          · exact Par.val_of_run rfl ⟨hR.other (by decide), hk.1⟩
          trivial
        intro a' w' inv hR
        have q90 : a'.tmps.getD 90 undef = pv p := inv.done 0 _ 90 rfl rfl rfl
        have q91 : a'.tmps.getD 91 undef = Value.pointer (some ⟨wr.heap.size, 1, none⟩) := inv.done 1 _ 91 rfl rfl rfl
        have q92 : a'.tmps.getD 92 undef = vU x := inv.done 2 _ 92 rfl rfl rfl
        have q93 : a'.tmps.getD 93 undef = Value.bool BB := inv.done 3 _ 93 rfl rfl rfl
        have q94 : a'.tmps.getD 94 undef = pv r := inv.done 4 _ 94 rfl rfl rfl
        have q95 : a'.tmps.getD 95 undef = Value.pointer (some ⟨wr.heap.size, 1, none⟩) := inv.done 5 _ 95 rfl rfl rfl
        have q96 : a'.tmps.getD 96 undef = vU x := inv.done 6 _ 96 rfl rfl rfl
        have q97 : a'.tmps.getD 97 undef = Value.bool BB := inv.done 7 _ 97 rfl rfl rfl
        have q98 : a'.tmps.getD 98 undef = Value.bool true := inv.done 8 _ 98 rfl rfl rfl
        have q9 : a'.tmps.getD 9 undef = Value.bool true := inv.done 9 _ 9 rfl rfl rfl
        clear inv
        simp only [List.filterMap_cons, List.filterMap_nil, Par.putAll, Act.put, List.setIfInBounds_toArray, List.set_cons_succ, List.set_cons_zero, q90, q91, q92, q93, q94, q95, q96, q97, q98, q9]
        clear q90 q91 q92 q93 q94 q95 q96 q97 q98 q9
        try clear a'
        obtain ⟨⟨row5, rv5, L5⟩, R5⟩ := hR.s2 rfl
        have HE5 : Hid (Ext w _) := hid hR.ext
        have HL5 := hid L5
        have HR5 := hid R5
        clear L5 R5 hR HL4 HR4 HE4 HB4 HBB HL HR HE HN c0 c1 c2
        obtain ⟨J, hJ⟩ : ∃ J, delE E x = J := ⟨_, rfl⟩
        obtain ⟨AJ, hAJ⟩ : ∃ AJ, delA E At x = AJ := ⟨_, rfl⟩
        rw [hJ] at HR5 HN5 HM5
        rw [hAJ] at HL5 HM5
        clear hJ hAJ
        try clear a'
        go_wp2_with fail
        refine (hfirst_b HL5.out HM5.out).mono ?_
        rintro e w6 ⟨rfl, E6⟩
        obtain ⟨h0, t0, n0, hf0⟩ := fstE_tuple J
        rw [hf0]
        have HF0 := hid hf0
        have HL6 := hid (HL5.out.ext E6)
        have HR6 := hid (HR5.out.ext E6)
        have HE6 : Hid (Ext w w6) := hid (HE5.out.trans E6)
        clear hf0 E6 HL5 HR5 HE5
        go_wp2_with fail
        refine (rhfirst_any w.heap.size _ r J HR6.out).mono ?_
        rintro e w7 ⟨he, E7⟩
        rw [HF0.out] at he
        subst he
        have HL7 := hid (HL6.out.ext E7)
        have HR7 := hid (HR6.out.ext E7)
        have HE7 : Hid (Ext w w7) := hid (HE6.out.trans E7)
        clear E7 HL6 HR6 HE6 HF0
        obtain ⟨t1, n1, hf1⟩ := atE_tuple J id
        have HF1 := hid hf1
        clear hf1
        go_wp2_with fail
        refine (hat_b id HL7.out HM5.out).mono ?_
        rintro e w8 ⟨rfl, rfl⟩
        rw [HF1.out]
        go_wp2_with fail
        refine (rhat_any w.heap.size _ r J id HR7.out).mono ?_
        rintro e w8 ⟨he, rfl⟩
        rw [HF1.out] at he
        subst he
        obtain ⟨rvv, hr6, ho6⟩ := HR7.out
        obtain ⟨ro, rc, rfl⟩ := ho6.shape
        have KR := hid (box1 hr6).1
        clear hr6 ho6 HF1
        go_wp2_with fail
        refine Par.wp_region_par (l := [_, _, _, _, _, _, _, _, _, _, _, _, _, _, _, _, _, _, _, _, _, _, _, _, _, _, _, _, _, _, _, _, _, _, _, _, _]) rfl Ext (Par.VL [Par.EQ (Value.bool true), Par.EQ (Value.bool false), Par.EQ (Value.bool false), Par.EQ (vU h0), Par.EQ (vU h0), Par.EQ (Value.bool false), Par.EQ (Value.bool false), Par.EQ (Value.bool false), Par.EQ (vU t0), Par.EQ (vU t0), Par.EQ (Value.bool false), Par.EQ (Value.bool false), Par.EQ (Value.bool false), Par.EQ (Value.bool n0), Par.EQ (Value.bool n0), Par.EQ (Value.bool false), Par.EQ (Value.bool false), Par.EQ (Value.bool false), Par.EQ (vU t1), Par.EQ (vU t1), Par.EQ (Value.bool false), Par.EQ (Value.bool false), Par.EQ (Value.bool false), Par.EQ (Value.bool n1), Par.EQ (Value.bool n1), Par.EQ (Value.bool false), Par.EQ (Value.bool false), Par.EQ (Value.bool false), Par.EQ (pv p), Par.EQ (Value.int IntKind.i64 (J.length : Nat)), Par.EQ (pv r), Par.EQ (pv r), Par.EQ (pv r), Par.EQ (Value.slice ro J.length rc), Par.EQ (Value.int IntKind.i64 (J.length : Nat)), Par.EQ (Value.bool false), Par.EQ (Value.bool false)]) (by kernel_rfl) Ext.refl (fun _ _ _ h1 h2 => Ext.trans h1 h2) (Ext.draw _) (Par.VL_stab ?_) ?_ ?_
        · simp only [List.forall_mem_cons, List.not_mem_nil, false_implies, implies_true, and_true]
          refine ⟨fun _ _ _ _ h => h, fun _ _ _ _ h => h, fun _ _ _ _ h => h, fun _ _ _ _ h => h, fun _ _ _ _ h => h, fun _ _ _ _ h => h, fun _ _ _ _ h => h, fun _ _ _ _ h => h, fun _ _ _ _ h => h, fun _ _ _ _ h => h, fun _ _ _ _ h => h, fun _ _ _ _ h => h, fun _ _ _ _ h => h, fun _ _ _ _ h => h, fun _ _ _ _ h => h, fun _ _ _ _ h => h, fun _ _ _ _ h => h, fun _ _ _ _ h => h, fun _ _ _ _ h => h, fun _ _ _ _ h => h, fun _ _ _ _ h => h, fun _ _ _ _ h => h, fun _ _ _ _ h => h, fun _ _ _ _ h => h, fun _ _ _ _ h => h, fun _ _ _ _ h => h, fun _ _ _ _ h => h, fun _ _ _ _ h => h, fun _ _ _ _ h => h, fun _ _ _ _ h => h, fun _ _ _ _ h => h, fun _ _ _ _ h => h, fun _ _ _ _ h => h, fun _ _ _ _ h => h, fun _ _ _ _ h => h, fun _ _ _ _ h => h, fun _ _ _ _ h => h⟩
        · refine ⟨⟨fun _ _ => trivial, fun ρ w' hX hG hk => ?_⟩, ?_⟩
          · exact Par.val_of_run rfl ⟨Ext.refl _, hk.1⟩
          refine ⟨⟨fun _ _ => trivial, fun ρ w' hX hG hk => ?_⟩, ?_⟩
          · obtain ⟨k0, -⟩ := hk
            have e0 : ρ (.tmp 138) = Value.bool true := k0
            clear k0
            refine Par.val_k fun K hK => ?_
            unfold Par.val
            (go_simp; exact hK _ _ ⟨Ext.refl _, rfl⟩)
          refine ⟨⟨fun _ _ => trivial, fun ρ w' hX hG hk => ?_⟩, ?_⟩
          · exact Par.val_of_run rfl ⟨Ext.refl _, hk.1⟩
          refine ⟨⟨fun _ _ u hu => .inl hu, fun ρ w' hX hG hk => ?_⟩, ?_⟩
          · exact Par.val_of_run rfl ⟨Ext.refl _, hk.1⟩
          refine ⟨⟨fun _ _ u hu => .inl hu, fun ρ w' hX hG hk => ?_⟩, ?_⟩
          · exact Par.val_of_run rfl ⟨Ext.refl _, hk.1⟩
          refine ⟨⟨fun _ _ u hu => .inl hu, fun ρ w' hX hG hk => ?_⟩, ?_⟩
          · obtain ⟨k0, k1, -⟩ := hk
            have e0 : ρ (.tmp 141) = vU h0 := k0
            have e1 : ρ (.tmp 142) = vU h0 := k1
            clear k0 k1
            refine Par.val_k fun K hK => ?_
            unfold Par.val
            (go_simp; exact hK _ _ ⟨Ext.refl _, rfl⟩)
          refine ⟨⟨fun _ _ => trivial, fun ρ w' hX hG hk => ?_⟩, ?_⟩
          · obtain ⟨k0, k1, k2, -⟩ := hk
            have e0 : ρ (.tmp 140) = Value.bool false := k0
            have e1 : ρ (Operand.const (Value.bool true)) = (Value.bool true) := k1
            have e2 : ρ (.tmp 143) = Value.bool false := k2
            clear k0 k1 k2
            refine Par.val_k fun K hK => ?_
            unfold Par.val
            (go_simp; exact hK _ _ ⟨Ext.refl _, rfl⟩)
          refine ⟨⟨fun _ _ => trivial, fun ρ w' hX hG hk => ?_⟩, ?_⟩
          · exact Par.val_of_run rfl ⟨Ext.refl _, hk.1⟩
          refine ⟨⟨fun _ _ u hu => .inl hu, fun ρ w' hX hG hk => ?_⟩, ?_⟩
          · exact Par.val_of_run rfl ⟨Ext.refl _, hk.1⟩
          refine ⟨⟨fun _ _ u hu => .inl hu, fun ρ w' hX hG hk => ?_⟩, ?_⟩
          · exact Par.val_of_run rfl ⟨Ext.refl _, hk.1⟩
          refine ⟨⟨fun _ _ u hu => .inl hu, fun ρ w' hX hG hk => ?_⟩, ?_⟩
          · obtain ⟨k0, k1, -⟩ := hk
            have e0 : ρ (.tmp 146) = vU t0 := k0
            have e1 : ρ (.tmp 147) = vU t0 := k1
            clear k0 k1
            refine Par.val_k fun K hK => ?_
            unfold Par.val
            (go_simp; exact hK _ _ ⟨Ext.refl _, rfl⟩)
          refine ⟨⟨fun _ _ => trivial, fun ρ w' hX hG hk => ?_⟩, ?_⟩
          · obtain ⟨k0, k1, k2, -⟩ := hk
            have e0 : ρ (.tmp 145) = Value.bool false := k0
            have e1 : ρ (Operand.const (Value.bool true)) = (Value.bool true) := k1
            have e2 : ρ (.tmp 148) = Value.bool false := k2
            clear k0 k1 k2
            refine Par.val_k fun K hK => ?_
            unfold Par.val
            (go_simp; exact hK _ _ ⟨Ext.refl _, rfl⟩)
          refine ⟨⟨fun _ _ => trivial, fun ρ w' hX hG hk => ?_⟩, ?_⟩
          · exact Par.val_of_run rfl ⟨Ext.refl _, hk.1⟩
          refine ⟨⟨fun _ _ u hu => .inl hu, fun ρ w' hX hG hk => ?_⟩, ?_⟩
          · exact Par.val_of_run rfl ⟨Ext.refl _, hk.1⟩
          refine ⟨⟨fun _ _ u hu => .inl hu, fun ρ w' hX hG hk => ?_⟩, ?_⟩
          · exact Par.val_of_run rfl ⟨Ext.refl _, hk.1⟩
          refine ⟨⟨fun _ _ u hu => .inl hu, fun ρ w' hX hG hk => ?_⟩, ?_⟩
          · obtain ⟨k0, k1, -⟩ := hk
            have e0 : ρ (.tmp 151) = Value.bool n0 := k0
            have e1 : ρ (.tmp 152) = Value.bool n0 := k1
            clear k0 k1
            refine Par.val_k fun K hK => ?_
            unfold Par.val
            (go_simp; exact hK _ _ ⟨Ext.refl _, rfl⟩)
          refine ⟨⟨fun _ _ => trivial, fun ρ w' hX hG hk => ?_⟩, ?_⟩
          · obtain ⟨k0, k1, k2, -⟩ := hk
            have e0 : ρ (.tmp 150) = Value.bool false := k0
            have e1 : ρ (Operand.const (Value.bool true)) = (Value.bool true) := k1
            have e2 : ρ (.tmp 153) = Value.bool false := k2
            clear k0 k1 k2
            refine Par.val_k fun K hK => ?_
            unfold Par.val
            (go_simp; exact hK _ _ ⟨Ext.refl _, rfl⟩)
          refine ⟨⟨fun _ _ => trivial, fun ρ w' hX hG hk => ?_⟩, ?_⟩
          · exact Par.val_of_run rfl ⟨Ext.refl _, hk.1⟩
          refine ⟨⟨fun _ _ u hu => .inl hu, fun ρ w' hX hG hk => ?_⟩, ?_⟩
          · exact Par.val_of_run rfl ⟨Ext.refl _, hk.1⟩
          refine ⟨⟨fun _ _ u hu => .inl hu, fun ρ w' hX hG hk => ?_⟩, ?_⟩
          · exact Par.val_of_run rfl ⟨Ext.refl _, hk.1⟩
          refine ⟨⟨fun _ _ u hu => .inl hu, fun ρ w' hX hG hk => ?_⟩, ?_⟩
          · obtain ⟨k0, k1, -⟩ := hk
            have e0 : ρ (.tmp 156) = vU t1 := k0
            have e1 : ρ (.tmp 157) = vU t1 := k1
            clear k0 k1
            refine Par.val_k fun K hK => ?_
            unfold Par.val
            (go_simp; exact hK _ _ ⟨Ext.refl _, rfl⟩)
          refine ⟨⟨fun _ _ => trivial, fun ρ w' hX hG hk => ?_⟩, ?_⟩
          · obtain ⟨k0, k1, k2, -⟩ := hk
            have e0 : ρ (.tmp 155) = Value.bool false := k0
            have e1 : ρ (Operand.const (Value.bool true)) = (Value.bool true) := k1
            have e2 : ρ (.tmp 158) = Value.bool false := k2
            clear k0 k1 k2
            refine Par.val_k fun K hK => ?_
            unfold Par.val
            (go_simp; exact hK _ _ ⟨Ext.refl _, rfl⟩)
          refine ⟨⟨fun _ _ => trivial, fun ρ w' hX hG hk => ?_⟩, ?_⟩
          · exact Par.val_of_run rfl ⟨Ext.refl _, hk.1⟩
          refine ⟨⟨fun _ _ u hu => .inl hu, fun ρ w' hX hG hk => ?_⟩, ?_⟩
          · exact Par.val_of_run rfl ⟨Ext.refl _, hk.1⟩
          refine ⟨⟨fun _ _ u hu => .inl hu, fun ρ w' hX hG hk => ?_⟩, ?_⟩
          · exact Par.val_of_run rfl ⟨Ext.refl _, hk.1⟩
          refine ⟨⟨fun _ _ u hu => .inl hu, fun ρ w' hX hG hk => ?_⟩, ?_⟩
          · obtain ⟨k0, k1, -⟩ := hk
            have e0 : ρ (.tmp 161) = Value.bool n1 := k0
            have e1 : ρ (.tmp 162) = Value.bool n1 := k1
            clear k0 k1
            refine Par.val_k fun K hK => ?_
            unfold Par.val
            (go_simp; exact hK _ _ ⟨Ext.refl _, rfl⟩)
          refine ⟨⟨fun _ _ => trivial, fun ρ w' hX hG hk => ?_⟩, ?_⟩
          · obtain ⟨k0, k1, k2, -⟩ := hk
            have e0 : ρ (.tmp 160) = Value.bool false := k0
            have e1 : ρ (Operand.const (Value.bool true)) = (Value.bool true) := k1
            have e2 : ρ (.tmp 163) = Value.bool false := k2
            clear k0 k1 k2
            refine Par.val_k fun K hK => ?_
            unfold Par.val
            (go_simp; exact hK _ _ ⟨Ext.refl _, rfl⟩)
          refine ⟨⟨fun _ _ => trivial, fun ρ w' hX hG hk => ?_⟩, ?_⟩
          · exact Par.val_of_run rfl ⟨Ext.refl _, hk.1⟩
          refine ⟨⟨fun _ _ u hu => .inl hu, fun ρ w' hX hG hk => ?_⟩, ?_⟩
          · exact Par.val_of_run rfl ⟨Ext.refl _, hk.1⟩
          refine ⟨⟨fun _ _ u hu => .inl hu, fun ρ w' hX hG hk => ?_⟩, ?_⟩
          · obtain ⟨k0, k1, -⟩ := hk
            have e0 := k0
            have e1 : ρ (.tmp 166) = pv p := k1
            clear k0 k1
            refine Par.val_k fun K hK => ?_
            unfold Par.val
            refine Par.val_call Try.func20 (by kernel_rfl) rfl e0 ?_
            simp only [List.map_toArray, List.map_cons, List.map_nil, e1]
            refine (hlen_b (HL7.out.ext hX) HM5.out).mono ?_
            rintro e w2 ⟨rfl, rfl⟩
            exact ⟨_, rfl, hK _ _ ⟨Ext.refl _, rfl⟩⟩
          refine ⟨⟨fun _ _ u hu => .inl hu, fun ρ w' hX hG hk => ?_⟩, ?_⟩
          · exact Par.val_of_run rfl ⟨Ext.refl _, hk.1⟩
          refine ⟨⟨fun _ _ u hu => .inl hu, fun ρ w' hX hG hk => ?_⟩, ?_⟩
          · obtain ⟨k0, -⟩ := hk
            have e0 : ρ (.tmp 168) = pv r := k0
            clear k0
            refine Par.val_k fun K hK => ?_
            unfold Par.val
            (go_simp; exact hK _ _ ⟨Ext.refl _, rfl⟩)
          refine ⟨⟨fun _ _ u hu => .inl hu, fun ρ w' hX hG hk => ?_⟩, ?_⟩
          · obtain ⟨k0, -⟩ := hk
            have e0 : ρ (.tmp 169) = pv r := k0
            clear k0
            refine Par.val_k fun K hK => ?_
            unfold Par.val
            (go_simp; exact hK _ _ ⟨Ext.refl _, rfl⟩)
          refine ⟨⟨fun _ _ u hu => .inl hu, fun ρ w' hX hG hk => ?_⟩, ?_⟩
          · obtain ⟨k0, -⟩ := hk
            have e0 : ρ (.tmp 170) = pv r := k0
            clear k0
            refine Par.val_k fun K hK => ?_
            unfold Par.val
            (have c := hX.cell KR.out; go_simp; exact hK _ _ ⟨Ext.refl _, rfl⟩)
          refine ⟨⟨fun _ _ u hu => .inl hu, fun ρ w' hX hG hk => ?_⟩, ?_⟩
          · obtain ⟨k0, -⟩ := hk
            have e0 : ρ (.tmp 171) = Value.slice ro J.length rc := k0
            clear k0
            refine Par.val_k fun K hK => ?_
            unfold Par.val
            (go_simp; exact hK _ _ ⟨Ext.refl _, rfl⟩)
          refine ⟨⟨fun _ _ u hu => .inl hu, fun ρ w' hX hG hk => ?_⟩, ?_⟩
          · obtain ⟨k0, k1, -⟩ := hk
            have e0 : ρ (.tmp 167) = Value.int IntKind.i64 (J.length : Nat) := k0
            have e1 : ρ (.tmp 172) = Value.int IntKind.i64 (J.length : Nat) := k1
            clear k0 k1
            refine Par.val_k fun K hK => ?_
            unfold Par.val
            (go_simp; exact hK _ _ ⟨Ext.refl _, rfl⟩)
          refine ⟨⟨fun _ _ => trivial, fun ρ w' hX hG hk => ?_⟩, ?_⟩
          · obtain ⟨k0, k1, k2, -⟩ := hk
            have e0 : ρ (.tmp 165) = Value.bool false := k0
            have e1 : ρ (Operand.const (Value.bool true)) = (Value.bool true) := k1
            have e2 : ρ (.tmp 173) = Value.bool false := k2
            clear k0 k1 k2
            refine Par.val_k fun K hK => ?_
            unfold Par.val
            (go_simp; exact hK _ _ ⟨Ext.refl _, rfl⟩)
          trivial
        intro a' w' inv
        have hX := inv.ext
        have q138 : a'.tmps.getD 138 undef = Value.bool true := inv.done 0 _ 138 rfl rfl rfl
        have q139 : a'.tmps.getD 139 undef = Value.bool false := inv.done 1 _ 139 rfl rfl rfl
        have q140 : a'.tmps.getD 140 undef = Value.bool false := inv.done 2 _ 140 rfl rfl rfl
        have q141 : a'.tmps.getD 141 undef = vU h0 := inv.done 3 _ 141 rfl rfl rfl
        have q142 : a'.tmps.getD 142 undef = vU h0 := inv.done 4 _ 142 rfl rfl rfl
        have q143 : a'.tmps.getD 143 undef = Value.bool false := inv.done 5 _ 143 rfl rfl rfl
        have q144 : a'.tmps.getD 144 undef = Value.bool false := inv.done 6 _ 144 rfl rfl rfl
        have q145 : a'.tmps.getD 145 undef = Value.bool false := inv.done 7 _ 145 rfl rfl rfl
        have q146 : a'.tmps.getD 146 undef = vU t0 := inv.done 8 _ 146 rfl rfl rfl
        have q147 : a'.tmps.getD 147 undef = vU t0 := inv.done 9 _ 147 rfl rfl rfl
        have q148 : a'.tmps.getD 148 undef = Value.bool false := inv.done 10 _ 148 rfl rfl rfl
        have q149 : a'.tmps.getD 149 undef = Value.bool false := inv.done 11 _ 149 rfl rfl rfl
        have q150 : a'.tmps.getD 150 undef = Value.bool false := inv.done 12 _ 150 rfl rfl rfl
        have q151 : a'.tmps.getD 151 undef = Value.bool n0 := inv.done 13 _ 151 rfl rfl rfl
        have q152 : a'.tmps.getD 152 undef = Value.bool n0 := inv.done 14 _ 152 rfl rfl rfl
        have q153 : a'.tmps.getD 153 undef = Value.bool false := inv.done 15 _ 153 rfl rfl rfl
        have q154 : a'.tmps.getD 154 undef = Value.bool false := inv.done 16 _ 154 rfl rfl rfl
        have q155 : a'.tmps.getD 155 undef = Value.bool false := inv.done 17 _ 155 rfl rfl rfl
        have q156 : a'.tmps.getD 156 undef = vU t1 := inv.done 18 _ 156 rfl rfl rfl
        have q157 : a'.tmps.getD 157 undef = vU t1 := inv.done 19 _ 157 rfl rfl rfl
        have q158 : a'.tmps.getD 158 undef = Value.bool false := inv.done 20 _ 158 rfl rfl rfl
        have q159 : a'.tmps.getD 159 undef = Value.bool false := inv.done 21 _ 159 rfl rfl rfl
        have q160 : a'.tmps.getD 160 undef = Value.bool false := inv.done 22 _ 160 rfl rfl rfl
        have q161 : a'.tmps.getD 161 undef = Value.bool n1 := inv.done 23 _ 161 rfl rfl rfl
        have q162 : a'.tmps.getD 162 undef = Value.bool n1 := inv.done 24 _ 162 rfl rfl rfl
        have q163 : a'.tmps.getD 163 undef = Value.bool false := inv.done 25 _ 163 rfl rfl rfl
        have q164 : a'.tmps.getD 164 undef = Value.bool false := inv.done 26 _ 164 rfl rfl rfl
        have q165 : a'.tmps.getD 165 undef = Value.bool false := inv.done 27 _ 165 rfl rfl rfl
        have q166 : a'.tmps.getD 166 undef = pv p := inv.done 28 _ 166 rfl rfl rfl
        have q167 : a'.tmps.getD 167 undef = Value.int IntKind.i64 (J.length : Nat) := inv.done 29 _ 167 rfl rfl rfl
        have q168 : a'.tmps.getD 168 undef = pv r := inv.done 30 _ 168 rfl rfl rfl
        have q169 : a'.tmps.getD 169 undef = pv r := inv.done 31 _ 169 rfl rfl rfl
        have q170 : a'.tmps.getD 170 undef = pv r := inv.done 32 _ 170 rfl rfl rfl
        have q171 : a'.tmps.getD 171 undef = Value.slice ro J.length rc := inv.done 33 _ 171 rfl rfl rfl
        have q172 : a'.tmps.getD 172 undef = Value.int IntKind.i64 (J.length : Nat) := inv.done 34 _ 172 rfl rfl rfl
        have q173 : a'.tmps.getD 173 undef = Value.bool false := inv.done 35 _ 173 rfl rfl rfl
        have q174 : a'.tmps.getD 174 undef = Value.bool false := inv.done 36 _ 174 rfl rfl rfl
        clear inv
        simp only [List.filterMap_cons, List.filterMap_nil, Par.putAll, Act.put, List.setIfInBounds_toArray, List.set_cons_succ, List.set_cons_zero, q138, q139, q140, q141, q142, q143, q144, q145, q146, q147, q148, q149, q150, q151, q152, q153, q154, q155, q156, q157, q158, q159, q160, q161, q162, q163, q164, q165, q166, q167, q168, q169, q170, q171, q172, q173, q174]
        clear q138 q139 q140 q141 q142 q143 q144 q145 q146 q147 q148 q149 q150 q151 q152 q153 q154 q155 q156 q157 q158 q159 q160 q161 q162 q163 q164 q165 q166 q167 q168 q169 q170 q171 q172 q173 q174
        clear a'
        have HL8 := hid (HL7.out.ext hX)
        have HR8 := hid (HR7.out.ext hX)
        have HE8 : Hid (Ext w _) := hid (HE7.out.trans hX)
        clear hX HL7 HR7 HE7 KR
        go_wp2
        go_roundw
        case rel => exact ⟨k + 1, row5, rv5, AJ, J, by omega, by go_num, HN5, HL8, HR8, HM5, HE8⟩
        case measure => simp [intOf]; omega
      have hd2' : (d == (2 : Int)) = false := by simp [hd2]
      clear hd2
      by_cases hd3 : d = 3
      · subst hd3
        go_wp2_with fail
        obtain ⟨BB, hBB⟩ : ∃ BB, decide (x ∈ E.map Prod.fst) = BB := ⟨_, rfl⟩
        have HBB := hid hBB
        clear hBB
        have HN5 : Hid ((movE E x a).length ≤ k + 1) := hid (by have := movE_len E x a; have := HN.out; omega)
        have HM5 := hid (mt_movA HM.out x a)
        refine ParE.wp_region_e (l := [_, _, _, _, _, _, _, _, _, _, _, _, _, _]) rfl (R2 5 11 w p mt mp r wr.heap.size At (movA E At x a) row rv E (movE E x a) 3 x a) (ParC.VC [ParC.EQ (pv p), ParC.EQ (Value.pointer (some ⟨wr.heap.size, 1, none⟩)), ParC.EQ (vU x), ParC.EQ (Value.pointer (some ⟨wr.heap.size, 2, none⟩)), ParC.EQ (vU a), ParC.EQ (Value.bool BB), ParC.EQ (pv r), ParC.EQ (Value.pointer (some ⟨wr.heap.size, 1, none⟩)), ParC.EQ (vU x), ParC.EQ (Value.pointer (some ⟨wr.heap.size, 2, none⟩)), ParC.EQ (vU a), ParC.EQ (Value.bool BB), ParC.EQ (Value.bool true), ParC.EQ (Value.bool true)]) (by kernel_rfl) (by kernel_rfl) (R2.start HE4.out HB4.out HL4.out HR4.out) ?_ ?_
        · refine ⟨fun L ρ w' hR hC hL hd hk => ?_, ?_⟩
          · exact Par.val_of_run rfl ⟨hR.other (by decide), hk.1⟩
          refine ⟨fun L ρ w' hR hC hL hd hk => ?_, ?_⟩
          · obtain ⟨k0, -⟩ := hk
            have e0 : ρ (.tmp 8) = Value.pointer (some ⟨wr.heap.size, 0, none⟩) := k0
            clear k0
            refine Par.val_k fun K hK => ?_
            unfold Par.val
            (go_simp; exact hK _ _ ⟨hR.other (by decide), rfl⟩)
          refine ⟨fun L ρ w' hR hC hL hd hk => ?_, ?_⟩
          · obtain ⟨k0, -⟩ := hk
            have e0 : ρ (.tmp 102) = Value.pointer (some ⟨wr.heap.size, 1, none⟩) := k0
            clear k0
            refine Par.val_k fun K hK => ?_
            unfold Par.val
            (have c := (lk3 hR.box).2.1; go_simp; exact hK _ _ ⟨hR.other (by decide), rfl⟩)
          refine ⟨fun L ρ w' hR hC hL hd hk => ?_, ?_⟩
          · obtain ⟨k0, -⟩ := hk
            have e0 : ρ (.tmp 8) = Value.pointer (some ⟨wr.heap.size, 0, none⟩) := k0
            clear k0
            refine Par.val_k fun K hK => ?_
            unfold Par.val
            (go_simp; exact hK _ _ ⟨hR.other (by decide), rfl⟩)
          refine ⟨fun L ρ w' hR hC hL hd hk => ?_, ?_⟩
          · obtain ⟨k0, -⟩ := hk
            have e0 : ρ (.tmp 104) = Value.pointer (some ⟨wr.heap.size, 2, none⟩) := k0
            clear k0
            refine Par.val_k fun K hK => ?_
            unfold Par.val
            (have c := (lk3 hR.box).2.2.1; go_simp; exact hK _ _ ⟨hR.other (by decide), rfl⟩)
          refine ⟨fun L ρ w' hR hC hL hd hk => ?_, ?_⟩
          · obtain ⟨k0, k1, k2, k3, -⟩ := hk
            have e0 := k0
            have e1 : ρ (.tmp 101) = pv p := k1
            have e2 : ρ (.tmp 103) = vU x := k2
            have e3 : ρ (.tmp 105) = vU a := k3
            clear k0 k1 k2 k3
            refine Par.val_k fun K hK => ?_
            unfold Par.val
            refine Par.val_call Try.func14 (by kernel_rfl) rfl e0 ?_
            simp only [List.map_toArray, List.map_cons, List.map_nil, e1, e2, e3]
            refine (hmove_b x a (hR.s0 hL).1 HM.out (by have := HN.out; omega) hR.ext.size).mono ?_
            rintro e w2 ⟨rfl, row3, v3, H3, F3, b3⟩
            exact ⟨_, rfl, hK _ _ ⟨hR.three hL (hC.notyet 11 5 hL (by kernel_rfl)) (by decide) H3 F3 b3, (congrArg Value.bool HBB.out)⟩⟩
          refine ⟨fun L ρ w' hR hC hL hd hk => ?_, ?_⟩
          · exact Par.val_of_run rfl ⟨hR.other (by decide), hk.1⟩
          refine ⟨fun L ρ w' hR hC hL hd hk => ?_, ?_⟩
          · obtain ⟨k0, -⟩ := hk
            have e0 : ρ (.tmp 8) = Value.pointer (some ⟨wr.heap.size, 0, none⟩) := k0
            clear k0
            refine Par.val_k fun K hK => ?_
            unfold Par.val
            (go_simp; exact hK _ _ ⟨hR.other (by decide), rfl⟩)
          refine ⟨fun L ρ w' hR hC hL hd hk => ?_, ?_⟩
          · obtain ⟨k0, -⟩ := hk
            have e0 : ρ (.tmp 108) = Value.pointer (some ⟨wr.heap.size, 1, none⟩) := k0
            clear k0
            refine Par.val_k fun K hK => ?_
            unfold Par.val
            (have c := (lk3 hR.box).2.1; go_simp; exact hK _ _ ⟨hR.other (by decide), rfl⟩)
          refine ⟨fun L ρ w' hR hC hL hd hk => ?_, ?_⟩
          · obtain ⟨k0, -⟩ := hk
            have e0 : ρ (.tmp 8) = Value.pointer (some ⟨wr.heap.size, 0, none⟩) := k0
            clear k0
            refine Par.val_k fun K hK => ?_
            unfold Par.val
            (go_simp; exact hK _ _ ⟨hR.other (by decide), rfl⟩)
          refine ⟨fun L ρ w' hR hC hL hd hk => ?_, ?_⟩
          · obtain ⟨k0, -⟩ := hk
            have e0 : ρ (.tmp 110) = Value.pointer (some ⟨wr.heap.size, 2, none⟩) := k0
            clear k0
            refine Par.val_k fun K hK => ?_
            unfold Par.val
            (have c := (lk3 hR.box).2.2.1; go_simp; exact hK _ _ ⟨hR.other (by decide), rfl⟩)
          refine ⟨fun L ρ w' hR hC hL hd hk => ?_, ?_⟩
          · obtain ⟨k0, k1, k2, k3, -⟩ := hk
            have e0 := k0
            have e1 : ρ (.tmp 107) = pv r := k1
            have e2 : ρ (.tmp 109) = vU x := k2
            have e3 : ρ (.tmp 111) = vU a := k3
            clear k0 k1 k2 k3
            refine Par.val_k fun K hK => ?_
            unfold Par.val
            have hI := hC.before 5 (i := 11) rfl hd (by kernel_rfl)
            refine Par.val_call Try.func15 (by kernel_rfl) rfl e0 ?_
            simp only [List.map_toArray, List.map_cons, List.map_nil, e1, e2, e3]
            refine (rhmove_b x a (hR.s1 hI hL).2 HM.out (by have := HN.out; omega) hR.ext.size).mono ?_
            rintro e w2 ⟨rfl, R3, F3⟩
            exact ⟨_, rfl, hK _ _ ⟨hR.seven hI hL (by decide) R3 F3 HBr.out hR.ext.size, (congrArg Value.bool HBB.out)⟩⟩
          refine ⟨fun L ρ w' hR hC hL hd hk => ?_, ?_⟩
          · obtain ⟨k0, k1, -⟩ := hk
            have e0 : ρ (.tmp 106) = Value.bool BB := k0
            have e1 : ρ (.tmp 112) = Value.bool BB := k1
            clear k0 k1
            refine Par.val_k fun K hK => ?_
            unfold Par.val
            (go_simp; exact hK _ _ ⟨hR.other (by decide), rfl⟩)
          refine ⟨fun L ρ w' hR hC hL hd hk => ?_, ?_⟩
          · exact Par.val_of_run rfl ⟨hR.other (by decide), hk.1⟩
          trivial
        intro a' w' inv hR
        have q101 : a'.tmps.getD 101 undef = pv p := inv.done 0 _ 101 rfl rfl rfl
        have q102 : a'.tmps.getD 102 undef = Value.pointer (some ⟨wr.heap.size, 1, none⟩) := inv.done 1 _ 102 rfl rfl rfl
        have q103 : a'.tmps.getD 103 undef = vU x := inv.done 2 _ 103 rfl rfl rfl
        have q104 : a'.tmps.getD 104 undef = Value.pointer (some ⟨wr.heap.size, 2, none⟩) := inv.done 3 _ 104 rfl rfl rfl
        have q105 : a'.tmps.getD 105 undef = vU a := inv.done 4 _ 105 rfl rfl rfl
        have q106 : a'.tmps.getD 106 undef = Value.bool BB := inv.done 5 _ 106 rfl rfl rfl
        have q107 : a'.tmps.getD 107 undef = pv r := inv.done 6 _ 107 rfl rfl rfl
        have q108 : a'.tmps.getD 108 undef = Value.pointer (some ⟨wr.heap.size, 1, none⟩) := inv.done 7 _ 108 rfl rfl rfl
        have q109 : a'.tmps.getD 109 undef = vU x := inv.done 8 _ 109 rfl rfl rfl
        have q110 : a'.tmps.getD 110 undef = Value.pointer (some ⟨wr.heap.size, 2, none⟩) := inv.done 9 _ 110 rfl rfl rfl
        have q111 : a'.tmps.getD 111 undef = vU a := inv.done 10 _ 111 rfl rfl rfl
        have q112 : a'.tmps.getD 112 undef = Value.bool BB := inv.done 11 _ 112 rfl rfl rfl
        have q113 : a'.tmps.getD 113 undef = Value.bool true := inv.done 12 _ 113 rfl rfl rfl
        have q9 : a'.tmps.getD 9 undef = Value.bool true := inv.done 13 _ 9 rfl rfl rfl
        clear inv
        simp only [List.filterMap_cons, List.filterMap_nil, Par.putAll, Act.put, List.setIfInBounds_toArray, List.set_cons_succ, List.set_cons_zero, q101, q102, q103, q104, q105, q106, q107, q108, q109, q110, q111, q112, q113, q9]
        clear q101 q102 q103 q104 q105 q106 q107 q108 q109 q110 q111 q112 q113 q9
        try clear a'
        obtain ⟨⟨row5, rv5, L5⟩, R5⟩ := hR.s2 rfl
        have HE5 : Hid (Ext w _) := hid hR.ext
        have HL5 := hid L5
        have HR5 := hid R5
        clear L5 R5 hR HL4 HR4 HE4 HB4 HBB HL HR HE HN c0 c1 c2
        obtain ⟨J, hJ⟩ : ∃ J, movE E x a = J := ⟨_, rfl⟩
        obtain ⟨AJ, hAJ⟩ : ∃ AJ, movA E At x a = AJ := ⟨_, rfl⟩
        rw [hJ] at HR5 HN5 HM5
        rw [hAJ] at HL5 HM5
        clear hJ hAJ
        try clear a'
        go_wp2_with fail
        refine (hfirst_b HL5.out HM5.out).mono ?_
        rintro e w6 ⟨rfl, E6⟩
        obtain ⟨h0, t0, n0, hf0⟩ := fstE_tuple J
        rw [hf0]
        have HF0 := hid hf0
        have HL6 := hid (HL5.out.ext E6)
        have HR6 := hid (HR5.out.ext E6)
        have HE6 : Hid (Ext w w6) := hid (HE5.out.trans E6)
        clear hf0 E6 HL5 HR5 HE5
        go_wp2_with fail
        refine (rhfirst_any w.heap.size _ r J HR6.out).mono ?_
        rintro e w7 ⟨he, E7⟩
        rw [HF0.out] at he
        subst he
        have HL7 := hid (HL6.out.ext E7)
        have HR7 := hid (HR6.out.ext E7)
        have HE7 : Hid (Ext w w7) := hid (HE6.out.trans E7)
        clear E7 HL6 HR6 HE6 HF0
        obtain ⟨t1, n1, hf1⟩ := atE_tuple J id
        have HF1 := hid hf1
        clear hf1
        go_wp2_with fail
        refine (hat_b id HL7.out HM5.out).mono ?_
        rintro e w8 ⟨rfl, rfl⟩
        rw [HF1.out]
        go_wp2_with fail
        refine (rhat_any w.heap.size _ r J id HR7.out).mono ?_
        rintro e w8 ⟨he, rfl⟩
        rw [HF1.out] at he
        subst he
        obtain ⟨rvv, hr6, ho6⟩ := HR7.out
        obtain ⟨ro, rc, rfl⟩ := ho6.shape
        have KR := hid (box1 hr6).1
        clear hr6 ho6 HF1
        go_wp2_with fail
        refine Par.wp_region_par (l := [_, _, _, _, _, _, _, _, _, _, _, _, _, _, _, _, _, _, _, _, _, _, _, _, _, _, _, _, _, _, _, _, _, _, _, _, _]) rfl Ext (Par.VL [Par.EQ (Value.bool true), Par.EQ (Value.bool false), Par.EQ (Value.bool false), Par.EQ (vU h0), Par.EQ (vU h0), Par.EQ (Value.bool false), Par.EQ (Value.bool false), Par.EQ (Value.bool false), Par.EQ (vU t0), Par.EQ (vU t0), Par.EQ (Value.bool false), Par.EQ (Value.bool false), Par.EQ (Value.bool false), Par.EQ (Value.bool n0), Par.EQ (Value.bool n0), Par.EQ (Value.bool false), Par.EQ (Value.bool false), Par.EQ (Value.bool false), Par.EQ (vU t1), Par.EQ (vU t1), Par.EQ (Value.bool false), Par.EQ (Value.bool false), Par.EQ (Value.bool false), Par.EQ (Value.bool n1), Par.EQ (Value.bool n1), Par.EQ (Value.bool false), Par.EQ (Value.bool false), Par.EQ (Value.bool false), Par.EQ (pv p), Par.EQ (Value.int IntKind.i64 (J.length : Nat)), Par.EQ (pv r), Par.EQ (pv r), Par.EQ (pv r), Par.EQ (Value.slice ro J.length rc), Par.EQ (Value.int IntKind.i64 (J.length : Nat)), Par.EQ (Value.bool false), Par.EQ (Value.bool false)]) (by kernel_rfl) Ext.refl (fun _ _ _ h1 h2 => Ext.trans h1 h2) (Ext.draw _) (Par.VL_stab ?_) ?_ ?_
        · simp only [List.forall_mem_cons, List.not_mem_nil, false_implies, implies_true, and_true]
          refine ⟨fun _ _ _ _ h => h, fun _ _ _ _ h => h, fun _ _ _ _ h => h, fun _ _ _ _ h => h, fun _ _ _ _ h => h, fun _ _ _ _ h => h, fun _ _ _ _ h => h, fun _ _ _ _ h => h, fun _ _ _ _ h => h, fun _ _ _ _ h => h, fun _ _ _ _ h => h, fun _ _ _ _ h => h, fun _ _ _ _ h => h, fun _ _ _ _ h => h, fun _ _ _ _ h => h, fun _ _ _ _ h => h, fun _ _ _ _ h => h, fun _ _ _ _ h => h, fun _ _ _ _ h => h, fun _ _ _ _ h => h, fun _ _ _ _ h => h, fun _ _ _ _ h => h, fun _ _ _ _ h => h, fun _ _ _ _ h => h, fun _ _ _ _ h => h, fun _ _ _ _ h => h, fun _ _ _ _ h => h, fun _ _ _ _ h => h, fun _ _ _ _ h => h, fun _ _ _ _ h => h, fun _ _ _ _ h => h, fun _ _ _ _ h => h, fun _ _ _ _ h => h, fun _ _ _ _ h => h, fun _ _ _ _ h => h, fun _ _ _ _ h => h, fun _ _ _ _ h => h⟩
        · refine ⟨⟨fun _ _ => trivial, fun ρ w' hX hG hk => ?_⟩, ?_⟩
          · exact Par.val_of_run rfl ⟨Ext.refl _, hk.1⟩
          refine ⟨⟨fun _ _ => trivial, fun ρ w' hX hG hk => ?_⟩, ?_⟩
          · obtain ⟨k0, -⟩ := hk
            have e0 : ρ (.tmp 138) = Value.bool true := k0
            clear k0
            refine Par.val_k fun K hK => ?_
            unfold Par.val
            (go_simp; exact hK _ _ ⟨Ext.refl _, rfl⟩)
          refine ⟨⟨fun _ _ => trivial, fun ρ w' hX hG hk => ?_⟩, ?_⟩
          · exact Par.val_of_run rfl ⟨Ext.refl _, hk.1⟩
          refine ⟨⟨fun _ _ u hu => .inl hu, fun ρ w' hX hG hk => ?_⟩, ?_⟩
          · exact Par.val_of_run rfl ⟨Ext.refl _, hk.1⟩
          refine ⟨⟨fun _ _ u hu => .inl hu, fun ρ w' hX hG hk => ?_⟩, ?_⟩
          · exact Par.val_of_run rfl ⟨Ext.refl _, hk.1⟩
          refine ⟨⟨fun _ _ u hu => .inl hu, fun ρ w' hX hG hk => ?_⟩, ?_⟩
          · obtain ⟨k0, k1, -⟩ := hk
            have e0 : ρ (.tmp 141) = vU h0 := k0
            have e1 : ρ (.tmp 142) = vU h0 := k1
            clear k0 k1
            refine Par.val_k fun K hK => ?_
            unfold Par.val
            (go_simp; exact hK _ _ ⟨Ext.refl _, rfl⟩)
          refine ⟨⟨fun _ _ => trivial, fun ρ w' hX hG hk => ?_⟩, ?_⟩
          · obtain ⟨k0, k1, k2, -⟩ := hk
            have e0 : ρ (.tmp 140) = Value.bool false := k0
            have e1 : ρ (Operand.const (Value.bool true)) = (Value.bool true) := k1
            have e2 : ρ (.tmp 143) = Value.bool false := k2
            clear k0 k1 k2
            refine Par.val_k fun K hK => ?_
            unfold Par.val
            (go_simp; exact hK _ _ ⟨Ext.refl _, rfl⟩)
          refine ⟨⟨fun _ _ => trivial, fun ρ w' hX hG hk => ?_⟩, ?_⟩
          · exact Par.val_of_run rfl ⟨Ext.refl _, hk.1⟩
          refine ⟨⟨fun _ _ u hu => .inl hu, fun ρ w' hX hG hk => ?_⟩, ?_⟩
          · exact Par.val_of_run rfl ⟨Ext.refl _, hk.1⟩
          refine ⟨⟨fun _ _ u hu => .inl hu, fun ρ w' hX hG hk => ?_⟩, ?_⟩
          · exact Par.val_of_run rfl ⟨Ext.refl _, hk.1⟩
          refine ⟨⟨fun _ _ u hu => .inl hu, fun ρ w' hX hG hk => ?_⟩, ?_⟩
          · obtain ⟨k0, k1, -⟩ := hk
            have e0 : ρ (.tmp 146) = vU t0 := k0
            have e1 : ρ (.tmp 147) = vU t0 := k1
            clear k0 k1
            refine Par.val_k fun K hK => ?_
            unfold Par.val
            (go_simp; exact hK _ _ ⟨Ext.refl _, rfl⟩)
          refine ⟨⟨fun _ _ => trivial, fun ρ w' hX hG hk => ?_⟩, ?_⟩
          · obtain ⟨k0, k1, k2, -⟩ := hk
            have e0 : ρ (.tmp 145) = Value.bool false := k0
            have e1 : ρ (Operand.const (Value.bool true)) = (Value.bool true) := k1
            have e2 : ρ (.tmp 148) = Value.bool false := k2
            clear k0 k1 k2
            refine Par.val_k fun K hK => ?_
            unfold Par.val
            (go_simp; exact hK _ _ ⟨Ext.refl _, rfl⟩)
          refine ⟨⟨fun _ _ => trivial, fun ρ w' hX hG hk => ?_⟩, ?_⟩
          · exact Par.val_of_run rfl ⟨Ext.refl _, hk.1⟩
          refine ⟨⟨fun _ _ u hu => .inl hu, fun ρ w' hX hG hk => ?_⟩, ?_⟩
          · exact Par.val_of_run rfl ⟨Ext.refl _, hk.1⟩
          refine ⟨⟨fun _ _ u hu => .inl hu, fun ρ w' hX hG hk => ?_⟩, ?_⟩
          · exact Par.val_of_run rfl ⟨Ext.refl _, hk.1⟩
          refine ⟨⟨fun _ _ u hu => .inl hu, fun ρ w' hX hG hk => ?_⟩, ?_⟩
          · obtain ⟨k0, k1, -⟩ := hk
            have e0 : ρ (.tmp 151) = Value.bool n0 := k0
            have e1 : ρ (.tmp 152) = Value.bool n0 := k1
            clear k0 k1
            refine Par.val_k fun K hK => ?_
            unfold Par.val
            (go_simp; exact hK _ _ ⟨Ext.refl _, rfl⟩)
          refine ⟨⟨fun _ _ => trivial, fun ρ w' hX hG hk => ?_⟩, ?_⟩
          · obtain ⟨k0, k1, k2, -⟩ := hk
            have e0 : ρ (.tmp 150) = Value.bool false := k0
            have e1 : ρ (Operand.const (Value.bool true)) = (Value.bool true) := k1
            have e2 : ρ (.tmp 153) = Value.bool false := k2
            clear k0 k1 k2
            refine Par.val_k fun K hK => ?_
            unfold Par.val
            (go_simp; exact hK _ _ ⟨Ext.refl _, rfl⟩)
          refine ⟨⟨fun _ _ => trivial, fun ρ w' hX hG hk => ?_⟩, ?_⟩
          · exact Par.val_of_run rfl ⟨Ext.refl _, hk.1⟩
          refine ⟨⟨fun _ _ u hu => .inl hu, fun ρ w' hX hG hk => ?_⟩, ?_⟩
          · exact Par.val_of_run rfl ⟨Ext.refl _, hk.1⟩
          refine ⟨⟨fun _ _ u hu => .inl hu, fun ρ w' hX hG hk => ?_⟩, ?_⟩
          · exact Par.val_of_run rfl ⟨Ext.refl _, hk.1⟩
          refine ⟨⟨fun _ _ u hu => .inl hu, fun ρ w' hX hG hk => ?_⟩, ?_⟩
          · obtain ⟨k0, k1, -⟩ := hk
            have e0 : ρ (.tmp 156) = vU t1 := k0
            have e1 : ρ (.tmp 157) = vU t1 := k1
            clear k0 k1
            refine Par.val_k fun K hK => ?_
            unfold Par.val
            (go_simp; exact hK _ _ ⟨Ext.refl _, rfl⟩)
          refine ⟨⟨fun _ _ => trivial, fun ρ w' hX hG hk => ?_⟩, ?_⟩
          · obtain ⟨k0, k1, k2, -⟩ := hk
            have e0 : ρ (.tmp 155) = Value.bool false := k0
            have e1 : ρ (Operand.const (Value.bool true)) = (Value.bool true) := k1
            have e2 : ρ (.tmp 158) = Value.bool false := k2
            clear k0 k1 k2
            refine Par.val_k fun K hK => ?_
            unfold Par.val
            (go_simp; exact hK _ _ ⟨Ext.refl _, rfl⟩)
          refine ⟨⟨fun _ _ => trivial, fun ρ w' hX hG hk => ?_⟩, ?_⟩
          · exact Par.val_of_run rfl ⟨Ext.refl _, hk.1⟩
          refine ⟨⟨fun _ _ u hu => .inl hu, fun ρ w' hX hG hk => ?_⟩, ?_⟩
          · exact Par.val_of_run rfl ⟨Ext.refl _, hk.1⟩
          refine ⟨⟨fun _ _ u hu => .inl hu, fun ρ w' hX hG hk => ?_⟩, ?_⟩
          · exact Par.val_of_run rfl ⟨Ext.refl _, hk.1⟩
          refine ⟨⟨fun _ _ u hu => .inl hu, fun ρ w' hX hG hk => ?_⟩, ?_⟩
          · obtain ⟨k0, k1, -⟩ := hk
            have e0 : ρ (.tmp 161) = Value.bool n1 := k0
            have e1 : ρ (.tmp 162) = Value.bool n1 := k1
            clear k0 k1
            refine Par.val_k fun K hK => ?_
            unfold Par.val
            (go_simp; exact hK _ _ ⟨Ext.refl _, rfl⟩)
          refine ⟨⟨fun _ _ => trivial, fun ρ w' hX hG hk => ?_⟩, ?_⟩
          · obtain ⟨k0, k1, k2, -⟩ := hk
            have e0 : ρ (.tmp 160) = Value.bool false := k0
            have e1 : ρ (Operand.const (Value.bool true)) = (Value.bool true) := k1
            have e2 : ρ (.tmp 163) = Value.bool false := k2
            clear k0 k1 k2
            refine Par.val_k fun K hK => ?_
            unfold Par.val
            (go_simp; exact hK _ _ ⟨Ext.refl _, rfl⟩)
          refine ⟨⟨fun _ _ => trivial, fun ρ w' hX hG hk => ?_⟩, ?_⟩
          · exact Par.val_of_run rfl ⟨Ext.refl _, hk.1⟩
          refine ⟨⟨fun _ _ u hu => .inl hu, fun ρ w' hX hG hk => ?_⟩, ?_⟩
          · exact Par.val_of_run rfl ⟨Ext.refl _, hk.1⟩
          refine ⟨⟨fun _ _ u hu => .inl hu, fun ρ w' hX hG hk => ?_⟩, ?_⟩
          · obtain ⟨k0, k1, -⟩ := hk
            have e0 := k0
            have e1 : ρ (.tmp 166) = pv p := k1
            clear k0 k1
            refine Par.val_k fun K hK => ?_
            unfold Par.val
            refine Par.val_call Try.func20 (by kernel_rfl) rfl e0 ?_
            simp only [List.map_toArray, List.map_cons, List.map_nil, e1]
            refine (hlen_b (HL7.out.ext hX) HM5.out).mono ?_
            rintro e w2 ⟨rfl, rfl⟩
            exact ⟨_, rfl, hK _ _ ⟨Ext.refl _, rfl⟩⟩
          refine ⟨⟨fun _ _ u hu => .inl hu, fun ρ w' hX hG hk => ?_⟩, ?_⟩
          · exact Par.val_of_run rfl ⟨Ext.refl _, hk.1⟩
          refine ⟨⟨fun _ _ u hu => .inl hu, fun ρ w' hX hG hk => ?_⟩, ?_⟩
          · obtain ⟨k0, -⟩ := hk
            have e0 : ρ (.tmp 168) = pv r := k0
            clear k0
            refine Par.val_k fun K hK => ?_
            unfold Par.val
            (go_simp; exact hK _ _ ⟨Ext.refl _, rfl⟩)
          refine ⟨⟨fun _ _ u hu => .inl hu, fun ρ w' hX hG hk => ?_⟩, ?_⟩
          · obtain ⟨k0, -⟩ := hk
            have e0 : ρ (.tmp 169) = pv r := k0
            clear k0
            refine Par.val_k fun K hK => ?_
            unfold Par.val
            (go_simp; exact hK _ _ ⟨Ext.refl _, rfl⟩)
          refine ⟨⟨fun _ _ u hu => .inl hu, fun ρ w' hX hG hk => ?_⟩, ?_⟩
          · obtain ⟨k0, -⟩ := hk
            have e0 : ρ (.tmp 170) = pv r := k0
            clear k0
            refine Par.val_k fun K hK => ?_
            unfold Par.val
            (have c := hX.cell KR.out; go_simp; exact hK _ _ ⟨Ext.refl _, rfl⟩)
          refine ⟨⟨fun _ _ u hu => .inl hu, fun ρ w' hX hG hk => ?_⟩, ?_⟩
          · obtain ⟨k0, -⟩ := hk
            have e0 : ρ (.tmp 171) = Value.slice ro J.length rc := k0
            clear k0
            refine Par.val_k fun K hK => ?_
            unfold Par.val
            (go_simp; exact hK _ _ ⟨Ext.refl _, rfl⟩)
          refine ⟨⟨fun _ _ u hu => .inl hu, fun ρ w' hX hG hk => ?_⟩, ?_⟩
          · obtain ⟨k0, k1, -⟩ := hk
            have e0 : ρ (.tmp 167) = Value.int IntKind.i64 (J.length : Nat) := k0
            have e1 : ρ (.tmp 172) = Value.int IntKind.i64 (J.length : Nat) := k1
            clear k0 k1
            refine Par.val_k fun K hK => ?_
            unfold Par.val
            (go_simp; exact hK _ _ ⟨Ext.refl _, rfl⟩)
          refine ⟨⟨fun _ _ => trivial, fun ρ w' hX hG hk => ?_⟩, ?_⟩
          · obtain ⟨k0, k1, k2, -⟩ := hk
            have e0 : ρ (.tmp 165) = Value.bool false := k0
            have e1 : ρ (Operand.const (Value.bool true)) = (Value.bool true) := k1
            have e2 : ρ (.tmp 173) = Value.bool false := k2
            clear k0 k1 k2
            refine Par.val_k fun K hK => ?_
            unfold Par.val
            (go_simp; exact hK _ _ ⟨Ext.refl _, rfl⟩)
          trivial
        intro a' w' inv
        have hX := inv.ext
        have q138 : a'.tmps.getD 138 undef = Value.bool true := inv.done 0 _ 138 rfl rfl rfl
        have q139 : a'.tmps.getD 139 undef = Value.bool false := inv.done 1 _ 139 rfl rfl rfl
        have q140 : a'.tmps.getD 140 undef = Value.bool false := inv.done 2 _ 140 rfl rfl rfl
        have q141 : a'.tmps.getD 141 undef = vU h0 := inv.done 3 _ 141 rfl rfl rfl
        have q142 : a'.tmps.getD 142 undef = vU h0 := inv.done 4 _ 142 rfl rfl rfl
        have q143 : a'.tmps.getD 143 undef = Value.bool false := inv.done 5 _ 143 rfl rfl rfl
        have q144 : a'.tmps.getD 144 undef = Value.bool false := inv.done 6 _ 144 rfl rfl rfl
        have q145 : a'.tmps.getD 145 undef = Value.bool false := inv.done 7 _ 145 rfl rfl rfl
        have q146 : a'.tmps.getD 146 undef = vU t0 := inv.done 8 _ 146 rfl rfl rfl
        have q147 : a'.tmps.getD 147 undef = vU t0 := inv.done 9 _ 147 rfl rfl rfl
        have q148 : a'.tmps.getD 148 undef = Value.bool false := inv.done 10 _ 148 rfl rfl rfl
        have q149 : a'.tmps.getD 149 undef = Value.bool false := inv.done 11 _ 149 rfl rfl rfl
        have q150 : a'.tmps.getD 150 undef = Value.bool false := inv.done 12 _ 150 rfl rfl rfl
        have q151 : a'.tmps.getD 151 undef = Value.bool n0 := inv.done 13 _ 151 rfl rfl rfl
        have q152 : a'.tmps.getD 152 undef = Value.bool n0 := inv.done 14 _ 152 rfl rfl rfl
        have q153 : a'.tmps.getD 153 undef = Value.bool false := inv.done 15 _ 153 rfl rfl rfl
        have q154 : a'.tmps.getD 154 undef = Value.bool false := inv.done 16 _ 154 rfl rfl rfl
        have q155 : a'.tmps.getD 155 undef = Value.bool false := inv.done 17 _ 155 rfl rfl rfl
        have q156 : a'.tmps.getD 156 undef = vU t1 := inv.done 18 _ 156 rfl rfl rfl
        have q157 : a'.tmps.getD 157 undef = vU t1 := inv.done 19 _ 157 rfl rfl rfl
        have q158 : a'.tmps.getD 158 undef = Value.bool false := inv.done 20 _ 158 rfl rfl rfl
        have q159 : a'.tmps.getD 159 undef = Value.bool false := inv.done 21 _ 159 rfl rfl rfl
        have q160 : a'.tmps.getD 160 undef = Value.bool false := inv.done 22 _ 160 rfl rfl rfl
        have q161 : a'.tmps.getD 161 undef = Value.bool n1 := inv.done 23 _ 161 rfl rfl rfl
        have q162 : a'.tmps.getD 162 undef = Value.bool n1 := inv.done 24 _ 162 rfl rfl rfl
        have q163 : a'.tmps.getD 163 undef = Value.bool false := inv.done 25 _ 163 rfl rfl rfl
        have q164 : a'.tmps.getD 164 undef = Value.bool false := inv.done 26 _ 164 rfl rfl rfl
        have q165 : a'.tmps.getD 165 undef = Value.bool false := inv.done 27 _ 165 rfl rfl rfl
        have q166 : a'.tmps.getD 166 undef = pv p := inv.done 28 _ 166 rfl rfl rfl
        have q167 : a'.tmps.getD 167 undef = Value.int IntKind.i64 (J.length : Nat) := inv.done 29 _ 167 rfl rfl rfl
        have q168 : a'.tmps.getD 168 undef = pv r := inv.done 30 _ 168 rfl rfl rfl
        have q169 : a'.tmps.getD 169 undef = pv r := inv.done 31 _ 169 rfl rfl rfl
        have q170 : a'.tmps.getD 170 undef = pv r := inv.done 32 _ 170 rfl rfl rfl
        have q171 : a'.tmps.getD 171 undef = Value.slice ro J.length rc := inv.done 33 _ 171 rfl rfl rfl
        have q172 : a'.tmps.getD 172 undef = Value.int IntKind.i64 (J.length : Nat) := inv.done 34 _ 172 rfl rfl rfl
        have q173 : a'.tmps.getD 173 undef = Value.bool false := inv.done 35 _ 173 rfl rfl rfl
        have q174 : a'.tmps.getD 174 undef = Value.bool false := inv.done 36 _ 174 rfl rfl rfl
        clear inv
        simp only [List.filterMap_cons, List.filterMap_nil, Par.putAll, Act.put, List.setIfInBounds_toArray, List.set_cons_succ, List.set_cons_zero, q138, q139, q140, q141, q142, q143, q144, q145, q146, q147, q148, q149, q150, q151, q152, q153, q154, q155, q156, q157, q158, q159, q160, q161, q162, q163, q164, q165, q166, q167, q168, q169, q170, q171, q172, q173, q174]
        clear q138 q139 q140 q141 q142 q143 q144 q145 q146 q147 q148 q149 q150 q151 q152 q153 q154 q155 q156 q157 q158 q159 q160 q161 q162 q163 q164 q165 q166 q167 q168 q169 q170 q171 q172 q173 q174
        clear a'
        have HL8 := hid (HL7.out.ext hX)
        have HR8 := hid (HR7.out.ext hX)
        have HE8 : Hid (Ext w _) := hid (HE7.out.trans hX)
        clear hX HL7 HR7 HE7 KR
        go_wp2
        go_roundw
        case rel => exact ⟨k + 1, row5, rv5, AJ, J, by omega, by go_num, HN5, HL8, HR8, HM5, HE8⟩
        case measure => simp [intOf]; omega
      have hd3' : (d == (3 : Int)) = false := by simp [hd3]
      clear hd3
      have HN5 : Hid (E.length ≤ k + 1) := hid (Nat.le_succ_of_le HN.out)
      obtain ⟨J, hJ⟩ : ∃ J, E = J := ⟨_, rfl⟩
      obtain ⟨AJ, hAJ⟩ : ∃ AJ, At = AJ := ⟨_, rfl⟩
      have HL5 := HL4
      have HR5 := HR4
      have HE5 := HE4
      have HM5 := HM
      rw [hJ] at HR5 HN5 HM5
      rw [hAJ] at HL5 HM5
      obtain ⟨row5, hl5⟩ : ∃ l5, row = l5 := ⟨_, rfl⟩
      rw [hl5] at HL5
      obtain ⟨rv5, hl6⟩ : ∃ l5, rv = l5 := ⟨_, rfl⟩
      rw [hl6] at HL5
      clear HL4 HR4 HE4 HB4 hJ hAJ hl5 hl6 HL HR HE HN
      go_wp2_with fail
      refine (hfirst_b HL5.out HM5.out).mono ?_
      rintro e w6 ⟨rfl, E6⟩
      obtain ⟨h0, t0, n0, hf0⟩ := fstE_tuple J
      rw [hf0]
      have HF0 := hid hf0
      have HL6 := hid (HL5.out.ext E6)
      have HR6 := hid (HR5.out.ext E6)
      have HE6 : Hid (Ext w w6) := hid (HE5.out.trans E6)
      clear hf0 E6 HL5 HR5 HE5
      go_wp2_with fail
      refine (rhfirst_any w.heap.size _ r J HR6.out).mono ?_
      rintro e w7 ⟨he, E7⟩
      rw [HF0.out] at he
      subst he
      have HL7 := hid (HL6.out.ext E7)
      have HR7 := hid (HR6.out.ext E7)
      have HE7 : Hid (Ext w w7) := hid (HE6.out.trans E7)
      clear E7 HL6 HR6 HE6 HF0
      obtain ⟨t1, n1, hf1⟩ := atE_tuple J id
      have HF1 := hid hf1
      clear hf1
      go_wp2_with fail
      refine (hat_b id HL7.out HM5.out).mono ?_
      rintro e w8 ⟨rfl, rfl⟩
      rw [HF1.out]
      go_wp2_with fail
      refine (rhat_any w.heap.size _ r J id HR7.out).mono ?_
      rintro e w8 ⟨he, rfl⟩
      rw [HF1.out] at he
      subst he
      obtain ⟨rvv, hr6, ho6⟩ := HR7.out
      obtain ⟨ro, rc, rfl⟩ := ho6.shape
      have KR := hid (box1 hr6).1
      clear hr6 ho6 HF1
      go_wp2_with fail
      refine Par.wp_region_par (l := [_, _, _, _, _, _, _, _, _, _, _, _, _, _, _, _, _, _, _, _, _, _, _, _, _, _, _, _, _, _, _, _, _, _, _, _, _]) rfl Ext (Par.VL [Par.EQ (Value.bool true), Par.EQ (Value.bool false), Par.EQ (Value.bool false), Par.EQ (vU h0), Par.EQ (vU h0), Par.EQ (Value.bool false), Par.EQ (Value.bool false), Par.EQ (Value.bool false), Par.EQ (vU t0), Par.EQ (vU t0), Par.EQ (Value.bool false), Par.EQ (Value.bool false), Par.EQ (Value.bool false), Par.EQ (Value.bool n0), Par.EQ (Value.bool n0), Par.EQ (Value.bool false), Par.EQ (Value.bool false), Par.EQ (Value.bool false), Par.EQ (vU t1), Par.EQ (vU t1), Par.EQ (Value.bool false), Par.EQ (Value.bool false), Par.EQ (Value.bool false), Par.EQ (Value.bool n1), Par.EQ (Value.bool n1), Par.EQ (Value.bool false), Par.EQ (Value.bool false), Par.EQ (Value.bool false), Par.EQ (pv p), Par.EQ (Value.int IntKind.i64 (J.length : Nat)), Par.EQ (pv r), Par.EQ (pv r), Par.EQ (pv r), Par.EQ (Value.slice ro J.length rc), Par.EQ (Value.int IntKind.i64 (J.length : Nat)), Par.EQ (Value.bool false), Par.EQ (Value.bool false)]) (by kernel_rfl) Ext.refl (fun _ _ _ h1 h2 => Ext.trans h1 h2) (Ext.draw _) (Par.VL_stab ?_) ?_ ?_
      · simp only [List.forall_mem_cons, List.not_mem_nil, false_implies, implies_true, and_true]
        refine ⟨fun _ _ _ _ h => h, fun _ _ _ _ h => h, fun _ _ _ _ h => h, fun _ _ _ _ h => h, fun _ _ _ _ h => h, fun _ _ _ _ h => h, fun _ _ _ _ h => h, fun _ _ _ _ h => h, fun _ _ _ _ h => h, fun _ _ _ _ h => h, fun _ _ _ _ h => h, fun _ _ _ _ h => h, fun _ _ _ _ h => h, fun _ _ _ _ h => h, fun _ _ _ _ h => h, fun _ _ _ _ h => h, fun _ _ _ _ h => h, fun _ _ _ _ h => h, fun _ _ _ _ h => h, fun _ _ _ _ h => h, fun _ _ _ _ h => h, fun _ _ _ _ h => h, fun _ _ _ _ h => h, fun _ _ _ _ h => h, fun _ _ _ _ h => h, fun _ _ _ _ h => h, fun _ _ _ _ h => h, fun _ _ _ _ h => h, fun _ _ _ _ h => h, fun _ _ _ _ h => h, fun _ _ _ _ h => h, fun _ _ _ _ h => h, fun _ _ _ _ h => h, fun _ _ _ _ h => h, fun _ _ _ _ h => h, fun _ _ _ _ h => h, fun _ _ _ _ h => h⟩
      · refine ⟨⟨fun _ _ => trivial, fun ρ w' hX hG hk => ?_⟩, ?_⟩
        · exact Par.val_of_run rfl ⟨Ext.refl _, hk.1⟩
        refine ⟨⟨fun _ _ => trivial, fun ρ w' hX hG hk => ?_⟩, ?_⟩
        · obtain ⟨k0, -⟩ := hk
          have e0 : ρ (.tmp 138) = Value.bool true := k0
          clear k0
          refine Par.val_k fun K hK => ?_
          unfold Par.val
          (go_simp; exact hK _ _ ⟨Ext.refl _, rfl⟩)
        refine ⟨⟨fun _ _ => trivial, fun ρ w' hX hG hk => ?_⟩, ?_⟩
        · exact Par.val_of_run rfl ⟨Ext.refl _, hk.1⟩
        refine ⟨⟨fun _ _ u hu => .inl hu, fun ρ w' hX hG hk => ?_⟩, ?_⟩
        · exact Par.val_of_run rfl ⟨Ext.refl _, hk.1⟩
        refine ⟨⟨fun _ _ u hu => .inl hu, fun ρ w' hX hG hk => ?_⟩, ?_⟩
        · exact Par.val_of_run rfl ⟨Ext.refl _, hk.1⟩
        refine ⟨⟨fun _ _ u hu => .inl hu, fun ρ w' hX hG hk => ?_⟩, ?_⟩
        · obtain ⟨k0, k1, -⟩ := hk
          have e0 : ρ (.tmp 141) = vU h0 := k0
          have e1 : ρ (.tmp 142) = vU h0 := k1
          clear k0 k1
          refine Par.val_k fun K hK => ?_
          unfold Par.val
          (go_simp; exact hK _ _ ⟨Ext.refl _, rfl⟩)
        refine ⟨⟨fun _ _ => trivial, fun ρ w' hX hG hk => ?_⟩, ?_⟩
        · obtain ⟨k0, k1, k2, -⟩ := hk
          have e0 : ρ (.tmp 140) = Value.bool false := k0
          have e1 : ρ (Operand.const (Value.bool true)) = (Value.bool true) := k1
          have e2 : ρ (.tmp 143) = Value.bool false := k2
          clear k0 k1 k2
          refine Par.val_k fun K hK => ?_
          unfold Par.val
          (go_simp; exact hK _ _ ⟨Ext.refl _, rfl⟩)
        refine ⟨⟨fun _ _ => trivial, fun ρ w' hX hG hk => ?_⟩, ?_⟩
        · exact Par.val_of_run rfl ⟨Ext.refl _, hk.1⟩
        refine ⟨⟨fun _ _ u hu => .inl hu, fun ρ w' hX hG hk => ?_⟩, ?_⟩
        · exact Par.val_of_run rfl ⟨Ext.refl _, hk.1⟩
        refine ⟨⟨fun _ _ u hu => .inl hu, fun ρ w' hX hG hk => ?_⟩, ?_⟩
        · exact Par.val_of_run rfl ⟨Ext.refl _, hk.1⟩
        refine ⟨⟨fun _ _ u hu => .inl hu, fun ρ w' hX hG hk => ?_⟩, ?_⟩
        · obtain ⟨k0, k1, -⟩ := hk
          have e0 : ρ (.tmp 146) = vU t0 := k0
          have e1 : ρ (.tmp 147) = vU t0 := k1
          clear k0 k1
          refine Par.val_k fun K hK => ?_
          unfold Par.val
          (go_simp; exact hK _ _ ⟨Ext.refl _, rfl⟩)
        refine ⟨⟨fun _ _ => trivial, fun ρ w' hX hG hk => ?_⟩, ?_⟩
        · obtain ⟨k0, k1, k2, -⟩ := hk
          have e0 : ρ (.tmp 145) = Value.bool false := k0
          have e1 : ρ (Operand.const (Value.bool true)) = (Value.bool true) := k1
          have e2 : ρ (.tmp 148) = Value.bool false := k2
          clear k0 k1 k2
          refine Par.val_k fun K hK => ?_
          unfold Par.val
          (go_simp; exact hK _ _ ⟨Ext.refl _, rfl⟩)
        refine ⟨⟨fun _ _ => trivial, fun ρ w' hX hG hk => ?_⟩, ?_⟩
        · exact Par.val_of_run rfl ⟨Ext.refl _, hk.1⟩
        refine ⟨⟨fun _ _ u hu => .inl hu, fun ρ w' hX hG hk => ?_⟩, ?_⟩
        · exact Par.val_of_run rfl ⟨Ext.refl _, hk.1⟩
        refine ⟨⟨fun _ _ u hu => .inl hu, fun ρ w' hX hG hk => ?_⟩, ?_⟩
        · exact Par.val_of_run rfl ⟨Ext.refl _, hk.1⟩
        refine ⟨⟨fun _ _ u hu => .inl hu, fun ρ w' hX hG hk => ?_⟩, ?_⟩
        · obtain ⟨k0, k1, -⟩ := hk
          have e0 : ρ (.tmp 151) = Value.bool n0 := k0
          have e1 : ρ (.tmp 152) = Value.bool n0 := k1
          clear k0 k1
          refine Par.val_k fun K hK => ?_
          unfold Par.val
          (go_simp; exact hK _ _ ⟨Ext.refl _, rfl⟩)
        refine ⟨⟨fun _ _ => trivial, fun ρ w' hX hG hk => ?_⟩, ?_⟩
        · obtain ⟨k0, k1, k2, -⟩ := hk
          have e0 : ρ (.tmp 150) = Value.bool false := k0
          have e1 : ρ (Operand.const (Value.bool true)) = (Value.bool true) := k1
          have e2 : ρ (.tmp 153) = Value.bool false := k2
          clear k0 k1 k2
          refine Par.val_k fun K hK => ?_
          unfold Par.val
          (go_simp; exact hK _ _ ⟨Ext.refl _, rfl⟩)
        refine ⟨⟨fun _ _ => trivial, fun ρ w' hX hG hk => ?_⟩, ?_⟩
        · exact Par.val_of_run rfl ⟨Ext.refl _, hk.1⟩
        refine ⟨⟨fun _ _ u hu => .inl hu, fun ρ w' hX hG hk => ?_⟩, ?_⟩
        · exact Par.val_of_run rfl ⟨Ext.refl _, hk.1⟩
        refine ⟨⟨fun _ _ u hu => .inl hu, fun ρ w' hX hG hk => ?_⟩, ?_⟩
        · exact Par.val_of_run rfl ⟨Ext.refl _, hk.1⟩
        refine ⟨⟨fun _ _ u hu => .inl hu, fun ρ w' hX hG hk => ?_⟩, ?_⟩
        · obtain ⟨k0, k1, -⟩ := hk
          have e0 : ρ (.tmp 156) = vU t1 := k0
          have e1 : ρ (.tmp 157) = vU t1 := k1
          clear k0 k1
          refine Par.val_k fun K hK => ?_
          unfold Par.val
          (go_simp; exact hK _ _ ⟨Ext.refl _, rfl⟩)
        refine ⟨⟨fun _ _ => trivial, fun ρ w' hX hG hk => ?_⟩, ?_⟩
        · obtain ⟨k0, k1, k2, -⟩ := hk
          have e0 : ρ (.tmp 155) = Value.bool false := k0
          have e1 : ρ (Operand.const (Value.bool true)) = (Value.bool true) := k1
          have e2 : ρ (.tmp 158) = Value.bool false := k2
          clear k0 k1 k2
          refine Par.val_k fun K hK => ?_
          unfold Par.val
          (go_simp; exact hK _ _ ⟨Ext.refl _, rfl⟩)
        refine ⟨⟨fun _ _ => trivial, fun ρ w' hX hG hk => ?_⟩, ?_⟩
        · exact Par.val_of_run rfl ⟨Ext.refl _, hk.1⟩
        refine ⟨⟨fun _ _ u hu => .inl hu, fun ρ w' hX hG hk => ?_⟩, ?_⟩
        · exact Par.val_of_run rfl ⟨Ext.refl _, hk.1⟩
        refine ⟨⟨fun _ _ u hu => .inl hu, fun ρ w' hX hG hk => ?_⟩, ?_⟩
        · exact Par.val_of_run rfl ⟨Ext.refl _, hk.1⟩
        refine ⟨⟨fun _ _ u hu => .inl hu, fun ρ w' hX hG hk => ?_⟩, ?_⟩
        · obtain ⟨k0, k1, -⟩ := hk
          have e0 : ρ (.tmp 161) = Value.bool n1 := k0
          have e1 : ρ (.tmp 162) = Value.bool n1 := k1
          clear k0 k1
          refine Par.val_k fun K hK => ?_
          unfold Par.val
          (go_simp; exact hK _ _ ⟨Ext.refl _, rfl⟩)
        refine ⟨⟨fun _ _ => trivial, fun ρ w' hX hG hk => ?_⟩, ?_⟩
        · obtain ⟨k0, k1, k2, -⟩ := hk
          have e0 : ρ (.tmp 160) = Value.bool false := k0
          have e1 : ρ (Operand.const (Value.bool true)) = (Value.bool true) := k1
          have e2 : ρ (.tmp 163) = Value.bool false := k2
          clear k0 k1 k2
          refine Par.val_k fun K hK => ?_
          unfold Par.val
          (go_simp; exact hK _ _ ⟨Ext.refl _, rfl⟩)
        refine ⟨⟨fun _ _ => trivial, fun ρ w' hX hG hk => ?_⟩, ?_⟩
        · exact Par.val_of_run rfl ⟨Ext.refl _, hk.1⟩
        refine ⟨⟨fun _ _ u hu => .inl hu, fun ρ w' hX hG hk => ?_⟩, ?_⟩
        · exact Par.val_of_run rfl ⟨Ext.refl _, hk.1⟩
        refine ⟨⟨fun _ _ u hu => .inl hu, fun ρ w' hX hG hk => ?_⟩, ?_⟩
        · obtain ⟨k0, k1, -⟩ := hk
          have e0 := k0
          have e1 : ρ (.tmp 166) = pv p := k1
          clear k0 k1
          refine Par.val_k fun K hK => ?_
          unfold Par.val
          refine Par.val_call Try.func20 (by kernel_rfl) rfl e0 ?_
          simp only [List.map_toArray, List.map_cons, List.map_nil, e1]
          refine (hlen_b (HL7.out.ext hX) HM5.out).mono ?_
          rintro e w2 ⟨rfl, rfl⟩
          exact ⟨_, rfl, hK _ _ ⟨Ext.refl _, rfl⟩⟩
        refine ⟨⟨fun _ _ u hu => .inl hu, fun ρ w' hX hG hk => ?_⟩, ?_⟩
        · exact Par.val_of_run rfl ⟨Ext.refl _, hk.1⟩
        refine ⟨⟨fun _ _ u hu => .inl hu, fun ρ w' hX hG hk => ?_⟩, ?_⟩
        · obtain ⟨k0, -⟩ := hk
          have e0 : ρ (.tmp 168) = pv r := k0
          clear k0
          refine Par.val_k fun K hK => ?_
          unfold Par.val
          (go_simp; exact hK _ _ ⟨Ext.refl _, rfl⟩)
        refine ⟨⟨fun _ _ u hu => .inl hu, fun ρ w' hX hG hk => ?_⟩, ?_⟩
        · obtain ⟨k0, -⟩ := hk
          have e0 : ρ (.tmp 169) = pv r := k0
          clear k0
          refine Par.val_k fun K hK => ?_
          unfold Par.val
          (go_simp; exact hK _ _ ⟨Ext.refl _, rfl⟩)
        refine ⟨⟨fun _ _ u hu => .inl hu, fun ρ w' hX hG hk => ?_⟩, ?_⟩
        · obtain ⟨k0, -⟩ := hk
          have e0 : ρ (.tmp 170) = pv r := k0
          clear k0
          refine Par.val_k fun K hK => ?_
          unfold Par.val
          (have c := hX.cell KR.out; go_simp; exact hK _ _ ⟨Ext.refl _, rfl⟩)
        refine ⟨⟨fun _ _ u hu => .inl hu, fun ρ w' hX hG hk => ?_⟩, ?_⟩
        · obtain ⟨k0, -⟩ := hk
          have e0 : ρ (.tmp 171) = Value.slice ro J.length rc := k0
          clear k0
          refine Par.val_k fun K hK => ?_
          unfold Par.val
          (go_simp; exact hK _ _ ⟨Ext.refl _, rfl⟩)
        refine ⟨⟨fun _ _ u hu => .inl hu, fun ρ w' hX hG hk => ?_⟩, ?_⟩
        · obtain ⟨k0, k1, -⟩ := hk
          have e0 : ρ (.tmp 167) = Value.int IntKind.i64 (J.length : Nat) := k0
          have e1 : ρ (.tmp 172) = Value.int IntKind.i64 (J.length : Nat) := k1
          clear k0 k1
          refine Par.val_k fun K hK => ?_
          unfold Par.val
          (go_simp; exact hK _ _ ⟨Ext.refl _, rfl⟩)
        refine ⟨⟨fun _ _ => trivial, fun ρ w' hX hG hk => ?_⟩, ?_⟩
        · obtain ⟨k0, k1, k2, -⟩ := hk
          have e0 : ρ (.tmp 165) = Value.bool false := k0
          have e1 : ρ (Operand.const (Value.bool true)) = (Value.bool true) := k1
          have e2 : ρ (.tmp 173) = Value.bool false := k2
          clear k0 k1 k2
          refine Par.val_k fun K hK => ?_
          unfold Par.val
          (go_simp; exact hK _ _ ⟨Ext.refl _, rfl⟩)
        trivial
      intro a' w' inv
      have hX := inv.ext
      have q138 : a'.tmps.getD 138 undef = Value.bool true := inv.done 0 _ 138 rfl rfl rfl
      have q139 : a'.tmps.getD 139 undef = Value.bool false := inv.done 1 _ 139 rfl rfl rfl
      have q140 : a'.tmps.getD 140 undef = Value.bool false := inv.done 2 _ 140 rfl rfl rfl
      have q141 : a'.tmps.getD 141 undef = vU h0 := inv.done 3 _ 141 rfl rfl rfl
      have q142 : a'.tmps.getD 142 undef = vU h0 := inv.done 4 _ 142 rfl rfl rfl
      have q143 : a'.tmps.getD 143 undef = Value.bool false := inv.done 5 _ 143 rfl rfl rfl
      have q144 : a'.tmps.getD 144 undef = Value.bool false := inv.done 6 _ 144 rfl rfl rfl
      have q145 : a'.tmps.getD 145 undef = Value.bool false := inv.done 7 _ 145 rfl rfl rfl
      have q146 : a'.tmps.getD 146 undef = vU t0 := inv.done 8 _ 146 rfl rfl rfl
      have q147 : a'.tmps.getD 147 undef = vU t0 := inv.done 9 _ 147 rfl rfl rfl
      have q148 : a'.tmps.getD 148 undef = Value.bool false := inv.done 10 _ 148 rfl rfl rfl
      have q149 : a'.tmps.getD 149 undef = Value.bool false := inv.done 11 _ 149 rfl rfl rfl
      have q150 : a'.tmps.getD 150 undef = Value.bool false := inv.done 12 _ 150 rfl rfl rfl
      have q151 : a'.tmps.getD 151 undef = Value.bool n0 := inv.done 13 _ 151 rfl rfl rfl
      have q152 : a'.tmps.getD 152 undef = Value.bool n0 := inv.done 14 _ 152 rfl rfl rfl
      have q153 : a'.tmps.getD 153 undef = Value.bool false := inv.done 15 _ 153 rfl rfl rfl
      have q154 : a'.tmps.getD 154 undef = Value.bool false := inv.done 16 _ 154 rfl rfl rfl
      have q155 : a'.tmps.getD 155 undef = Value.bool false := inv.done 17 _ 155 rfl rfl rfl
      have q156 : a'.tmps.getD 156 undef = vU t1 := inv.done 18 _ 156 rfl rfl rfl
      have q157 : a'.tmps.getD 157 undef = vU t1 := inv.done 19 _ 157 rfl rfl rfl
      have q158 : a'.tmps.getD 158 undef = Value.bool false := inv.done 20 _ 158 rfl rfl rfl
      have q159 : a'.tmps.getD 159 undef = Value.bool false := inv.done 21 _ 159 rfl rfl rfl
      have q160 : a'.tmps.getD 160 undef = Value.bool false := inv.done 22 _ 160 rfl rfl rfl
      have q161 : a'.tmps.getD 161 undef = Value.bool n1 := inv.done 23 _ 161 rfl rfl rfl
      have q162 : a'.tmps.getD 162 undef = Value.bool n1 := inv.done 24 _ 162 rfl rfl rfl
      have q163 : a'.tmps.getD 163 undef = Value.bool false := inv.done 25 _ 163 rfl rfl rfl
      have q164 : a'.tmps.getD 164 undef = Value.bool false := inv.done 26 _ 164 rfl rfl rfl
      have q165 : a'.tmps.getD 165 undef = Value.bool false := inv.done 27 _ 165 rfl rfl rfl
      have q166 : a'.tmps.getD 166 undef = pv p := inv.done 28 _ 166 rfl rfl rfl
      have q167 : a'.tmps.getD 167 undef = Value.int IntKind.i64 (J.length : Nat) := inv.done 29 _ 167 rfl rfl rfl
      have q168 : a'.tmps.getD 168 undef = pv r := inv.done 30 _ 168 rfl rfl rfl
      have q169 : a'.tmps.getD 169 undef = pv r := inv.done 31 _ 169 rfl rfl rfl
      have q170 : a'.tmps.getD 170 undef = pv r := inv.done 32 _ 170 rfl rfl rfl
      have q171 : a'.tmps.getD 171 undef = Value.slice ro J.length rc := inv.done 33 _ 171 rfl rfl rfl
      have q172 : a'.tmps.getD 172 undef = Value.int IntKind.i64 (J.length : Nat) := inv.done 34 _ 172 rfl rfl rfl
      have q173 : a'.tmps.getD 173 undef = Value.bool false := inv.done 35 _ 173 rfl rfl rfl
      have q174 : a'.tmps.getD 174 undef = Value.bool false := inv.done 36 _ 174 rfl rfl rfl
      clear inv
      simp only [List.filterMap_cons, List.filterMap_nil, Par.putAll, Act.put, List.setIfInBounds_toArray, List.set_cons_succ, List.set_cons_zero, q138, q139, q140, q141, q142, q143, q144, q145, q146, q147, q148, q149, q150, q151, q152, q153, q154, q155, q156, q157, q158, q159, q160, q161, q162, q163, q164, q165, q166, q167, q168, q169, q170, q171, q172, q173, q174]
      clear q138 q139 q140 q141 q142 q143 q144 q145 q146 q147 q148 q149 q150 q151 q152 q153 q154 q155 q156 q157 q158 q159 q160 q161 q162 q163 q164 q165 q166 q167 q168 q169 q170 q171 q172 q173 q174
      clear a'
      have HL8 := hid (HL7.out.ext hX)
      have HR8 := hid (HR7.out.ext hX)
      have HE8 : Hid (Ext w _) := hid (HE7.out.trans hX)
      clear hX HL7 HR7 HE7 KR
      go_wp2
      go_roundw
      case rel => exact ⟨k + 1, row5, rv5, AJ, J, by omega, by go_num, HN5, HL8, HR8, HM5, HE8⟩
      case measure => simp [intOf]; omega
    · obtain rfl : k = X.length := by omega
      have hi1 : decide ((X.length : Int) < X.length) = false := by simp
      go_wp2
      go_ret
      exact ⟨rfl, HE.out⟩
end Go.Proofs.Ytkagacopgjcdnaa
