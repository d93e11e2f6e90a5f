/- The dead: takeRows. -/
import Derived.Test.YtfpljeblehieiaaDoorDedJ
import Derived.Test.YtfpljeblehieiaaDoorOpen
set_option linter.unusedSimpArgs false
set_option linter.unusedVariables false
namespace Go.Proofs.YtfpljeblehieiaaDoor
open Go Go.RowKit Go.Tum Go.ChangeMaps Go.Sort Go.Tum.Rn
open Go.ParB (upd Lof)
open Go.ParE (putS slotsR slots Closed)

theorem Sl.cells {w : World} {size n cap : Nat} {ao : Option Addr} {xs : List Value} (h : Sl w size (.slice ao n cap) n xs) : n ≤ cap ∧ cap ≤ maxLen ∧ (ao = none → cap = 0) ∧ ∀ a, ao = some a → ∀ j u, xs[j]? = some u → w.cell? (a.add j) = some u := by
  obtain ⟨-, ao', cap', e, h1, h2, h3, h4⟩ := h
  cases e
  exact ⟨h1, h2, h3, h4⟩
theorem u64_le (a b : UInt64) : decide (a ≤ b) = decide (a.toNat ≤ b.toNat) := by simp only [UInt64.le_iff_toNat_le]
def takeR : UInt64 → List (UInt64 × UInt64) → PD → Option PD
  | _, [], s => some s
  | ahead, z :: r, s => if decide (z.2 ≤ ahead) || (decide (s.last < z.2) || (s.rows.lookup z.1).isSome) then none else takeR z.2 r { s with rows := s.rows ++ [z] }
/-- What taking something leaves. -/
def TakP (w : World) (p mp ms : Nat) (o : Option PD) (e : Ending) (w' : World) : Prop :=
  Fr [p, mp, ms] w w' ∧ match o with
  | some s' => e = .returned (.bool true) ∧ DD w' p mp ms s'
  | none => e = .returned (.bool false)
set_option maxRecDepth 100000 in
set_option maxHeartbeats 2000000 in
theorem dtakeR_any {w : World} {p mp ms : Nat} {s : PD} {v : Value} (rows : List (UInt64 × UInt64)) (h : DD w p mp ms s) (hs : ∀ w', Fr [p, mp, ms] w w' → Sl w' 2 v rows.length (rows.flatMap encR)) (hlr : s.rows.length + rows.length ≤ 99999) :
    Calls Tryd.prog 32 #[pv p, v] w fun e w' => TakP w p mp ms (takeR 0 rows s) e w' := by
  obtain ⟨O, hO⟩ : ∃ O, takeR 0 rows s = O := ⟨_, rfl⟩
  have HO := hid hO
  rw [hO]
  have H := hid h
  have HS := hid hs
  have HLR := hid hlr
  obtain ⟨hfl, ao, cap, rfl, hnc, hcm, hz, -⟩ := hs w (Fr.refl _ _)
  have hcm2 : cap ≤ 9223372036854775807 := by simpa [maxLen] using hcm
  clear h hs hlr hO hfl hcm
  go_enter Tryd.func32, Tryd.ntmps32
  go_wp2
  go_loopw [5, 10] (fun av iv wr => ∃ (k : Nat) (ah : UInt64) (s2 : PD), k ≤ rows.length ∧ iv = .int .i64 (k : Int) ∧ av = vU ah ∧ Hid (takeR ah (rows.drop k) s2 = O) ∧ Hid (DD wr p mp ms s2) ∧ Hid (s2.rows.length + (rows.length - k) ≤ 99999) ∧ Hid (Fr [p, mp, ms] w wr)) (fun _ iv _ => rows.length - (intOf iv).toNat)
  case atStart => exact ⟨0, 0, s, by omega, rfl, rfl, HO, H, by simpa using HLR, hid (Fr.refl _ _)⟩
  case round =>
    obtain ⟨k, ah, s2, hk, rfl, rfl, HT, HD, HL, HF⟩ := hrel
    by_cases hkm : k < rows.length
    · have hki : decide ((k : Int) < (rows.length : Int)) = true := by simp; omega
      obtain ⟨a, rfl⟩ : ∃ a, ao = some a := by
        cases ao with
        | none => have := hz rfl; omega
        | some a => exact ⟨a, rfl⟩
      obtain ⟨-, -, -, hc⟩ := Sl.cells (HS.out wr HF.out)
      obtain ⟨g0, g1⟩ := flat2_get (A := fun z : UInt64 × UInt64 => vU z.1) (Bf := fun z => vU z.2) rows k hkm
      have r0 := cell_first (i := k * 2) (hc a rfl _ _ g0)
      have r1 := cell_next (i := k * 2) (j := 1) (hc a rfl _ _ g1) (by decide)
      have hdrop := List.drop_eq_getElem_cons hkm
      obtain ⟨z, hz2⟩ : ∃ z, rows[k] = z := ⟨_, rfl⟩
      rw [hz2] at r0 r1 hdrop
      have ht := HT.out
      rw [hdrop] at ht
      obtain ⟨z1, z2⟩ := z
      have HT2 := hid ht
      have HB := hid (heap_alloc_new wr (.cells #[vU z1, vU z2] 48 (0, 0)))
      have HD2 := hid (HD.out.ext (Ext.alloc wr (.cells #[vU z1, vU z2] 48 (0, 0))))
      have HF2 := hid (HF.out.trans (Ext.fr (S := [p, mp, ms]) (Ext.alloc wr (.cells #[vU z1, vU z2] 48 (0, 0)))))
      have HKM := hid hkm
      clear hc g0 g1 hdrop hz2 ht HT HD HF
      go_wp2_with fail
      clear r0 r1
      obtain ⟨rb, hrb⟩ : ∃ b, wr.heap.size = b := ⟨_, rfl⟩
      try rw [hrb] at HB
      try rw [hrb]
      clear hrb
      generalize wr.alloc (.cells #[vU z1, vU z2] 48 (0, 0)) = W5 at *
      obtain ⟨b1, hb1⟩ : ∃ b, decide (z2 ≤ ah) = b := ⟨_, rfl⟩
      obtain ⟨b2, hb2⟩ : ∃ b, decide (s2.last < z2) = b := ⟨_, rfl⟩
      obtain ⟨b3, hb3⟩ : ∃ b, (s2.rows.lookup z1).isSome = b := ⟨_, rfl⟩
      have HT3 : Hid ((if b1 || (b2 || b3) then none else takeR z2 (rows.drop (k + 1)) { s2 with rows := s2.rows ++ [(z1, z2)] }) = O) := hid (by have := HT2.out; rw [takeR] at this; dsimp only at this; rw [hb1, hb2, hb3] at this; exact this)
      have HB3 := hid hb3
      rw [u64_le] at hb1
      have hb2' : decide (s2.last.toNat < z2.toNat) = b2 := by rw [← hb2]; simp only [u64_lt]
      clear hb2 hb3 HT2
      cases b1
      case true =>
        refine Par.wp_region_par (l := [_, _, _, _, _, _, _, _, _, _, _, _, _, _, _, _, _, _, _]) rfl Ext (Par.VL [Par.EQ (Value.pointer (some ⟨rb, 1, none⟩)), Par.EQ (vU z2), Par.EQ (vU ah), Par.EQ (Value.bool true), Par.EQ (Value.bool true), Par.EQ (undef), Par.EQ (undef), Par.EQ (undef), Par.EQ (undef), Par.EQ (undef), Par.EQ (undef), Par.EQ (undef), Par.EQ (Value.bool true), Par.EQ (Value.bool true), Par.EQ (undef), Par.EQ (undef), Par.EQ (undef), Par.EQ (undef), Par.EQ (Value.bool true)]) (by kernel_rfl) Ext.refl (fun _ _ _ h1 h2 => Ext.trans h1 h2) (Ext.draw _) (Par.VL_stab ?_) ?_ ?_
        · simp only [List.forall_mem_cons, List.not_mem_nil, false_implies, implies_true, and_true]
          refine ⟨fun _ _ _ _ h => h, fun _ _ _ _ h => h, fun _ _ _ _ h => h, fun _ _ _ _ h => h, fun _ _ _ _ h => h, fun _ _ _ _ h => h, fun _ _ _ _ h => h, fun _ _ _ _ h => h, fun _ _ _ _ h => h, fun _ _ _ _ h => h, fun _ _ _ _ h => h, fun _ _ _ _ h => h, fun _ _ _ _ h => h, fun _ _ _ _ h => h, fun _ _ _ _ h => h, fun _ _ _ _ h => h, fun _ _ _ _ h => h, fun _ _ _ _ h => h, fun _ _ _ _ h => h⟩
        · refine ⟨⟨fun _ _ => trivial, fun ρ w' hX hG hk => ?_⟩, ?_⟩
          · obtain ⟨k0, -⟩ := hk
            have e0 : ρ (.tmp 7) = pv rb := k0
            clear k0
            refine Par.val_k fun K hK => ?_
            unfold Par.val
            (go_simp; exact hK _ _ ⟨Ext.refl _, rfl⟩)
          refine ⟨⟨fun _ _ => trivial, fun ρ w' hX hG hk => ?_⟩, ?_⟩
          · obtain ⟨k0, -⟩ := hk
            have e0 : ρ (.tmp 14) = Value.pointer (some ⟨rb, 1, none⟩) := k0
            clear k0
            refine Par.val_k fun K hK => ?_
            unfold Par.val
            (have cc := (lk2 (hX.obj HB.out)).2.1; go_simp; exact hK _ _ ⟨Ext.refl _, rfl⟩)
          refine ⟨⟨fun _ _ => trivial, fun ρ w' hX hG hk => ?_⟩, ?_⟩
          · exact Par.val_of_run rfl ⟨Ext.refl _, hk.1⟩
          refine ⟨⟨fun _ _ => trivial, fun ρ w' hX hG hk => ?_⟩, ?_⟩
          · obtain ⟨k0, k1, -⟩ := hk
            have e0 : ρ (.tmp 15) = vU z2 := k0
            have e1 : ρ (.tmp 16) = vU ah := k1
            clear k0 k1
            refine Par.val_k fun K hK => ?_
            unfold Par.val
            (go_simp; exact hK _ _ ⟨Ext.refl _, rfl⟩)
          refine ⟨⟨fun _ _ => trivial, fun ρ w' hX hG hk => ?_⟩, ?_⟩
          · exact Par.val_of_run rfl ⟨Ext.refl _, hk.1⟩
          refine ⟨⟨fun _ _ u hu => .inr rfl, fun ρ w' hX hG hk => ?_⟩, ?_⟩
          · cases hG
          refine ⟨⟨fun _ _ u hu => .inr rfl, fun ρ w' hX hG hk => ?_⟩, ?_⟩
          · cases hG
          refine ⟨⟨fun _ _ u hu => .inr rfl, fun ρ w' hX hG hk => ?_⟩, ?_⟩
          · cases hG
          refine ⟨⟨fun _ _ u hu => .inr rfl, fun ρ w' hX hG hk => ?_⟩, ?_⟩
          · cases hG
          refine ⟨⟨fun _ _ u hu => .inr rfl, fun ρ w' hX hG hk => ?_⟩, ?_⟩
          · cases hG
          refine ⟨⟨fun _ _ u hu => .inr rfl, fun ρ w' hX hG hk => ?_⟩, ?_⟩
          · cases hG
          refine ⟨⟨fun _ _ u hu => .inr rfl, fun ρ w' hX hG hk => ?_⟩, ?_⟩
          · cases hG
          refine ⟨⟨fun _ _ => trivial, fun ρ w' hX hG hk => ?_⟩, ?_⟩
          · obtain ⟨k0, k1, k2, -⟩ := hk
            have e0 : ρ (.tmp 18) = Value.bool true := k0
            have e1 : ρ (Operand.const (Value.bool true)) = (Value.bool true) := k1
            have e2 : ρ (.tmp 25) = undef := k2
            clear k0 k1 k2
            refine Par.val_k fun K hK => ?_
            unfold Par.val
            (go_simp; exact hK _ _ ⟨Ext.refl _, rfl⟩)
          refine ⟨⟨fun _ _ => trivial, fun ρ w' hX hG hk => ?_⟩, ?_⟩
          · exact Par.val_of_run rfl ⟨Ext.refl _, hk.1⟩
          refine ⟨⟨fun _ _ u hu => .inr rfl, fun ρ w' hX hG hk => ?_⟩, ?_⟩
          · cases hG
          refine ⟨⟨fun _ _ u hu => .inr rfl, fun ρ w' hX hG hk => ?_⟩, ?_⟩
          · cases hG
          refine ⟨⟨fun _ _ u hu => .inr rfl, fun ρ w' hX hG hk => ?_⟩, ?_⟩
          · cases hG
          refine ⟨⟨fun _ _ u hu => .inr rfl, fun ρ w' hX hG hk => ?_⟩, ?_⟩
          · cases hG
          refine ⟨⟨fun _ _ => trivial, fun ρ w' hX hG hk => ?_⟩, ?_⟩
          · obtain ⟨k0, k1, k2, -⟩ := hk
            have e0 : ρ (.tmp 27) = Value.bool true := k0
            have e1 : ρ (Operand.const (Value.bool true)) = (Value.bool true) := k1
            have e2 : ρ (.tmp 31) = undef := k2
            clear k0 k1 k2
            refine Par.val_k fun K hK => ?_
            unfold Par.val
            (go_simp; exact hK _ _ ⟨Ext.refl _, rfl⟩)
          trivial
        intro a' w' inv
        have hX := inv.ext
        have q14 : a'.tmps.getD 14 undef = Value.pointer (some ⟨rb, 1, none⟩) := inv.done 0 _ 14 rfl rfl rfl
        have q15 : a'.tmps.getD 15 undef = vU z2 := inv.done 1 _ 15 rfl rfl rfl
        have q16 : a'.tmps.getD 16 undef = vU ah := inv.done 2 _ 16 rfl rfl rfl
        have q17 : a'.tmps.getD 17 undef = Value.bool true := inv.done 3 _ 17 rfl rfl rfl
        have q18 : a'.tmps.getD 18 undef = Value.bool true := inv.done 4 _ 18 rfl rfl rfl
        have q19 : a'.tmps.getD 19 undef = undef := inv.done 5 _ 19 rfl rfl rfl
        have q20 : a'.tmps.getD 20 undef = undef := inv.done 6 _ 20 rfl rfl rfl
        have q21 : a'.tmps.getD 21 undef = undef := inv.done 7 _ 21 rfl rfl rfl
        have q22 : a'.tmps.getD 22 undef = undef := inv.done 8 _ 22 rfl rfl rfl
        have q23 : a'.tmps.getD 23 undef = undef := inv.done 9 _ 23 rfl rfl rfl
        have q24 : a'.tmps.getD 24 undef = undef := inv.done 10 _ 24 rfl rfl rfl
        have q25 : a'.tmps.getD 25 undef = undef := inv.done 11 _ 25 rfl rfl rfl
        have q26 : a'.tmps.getD 26 undef = Value.bool true := inv.done 12 _ 26 rfl rfl rfl
        have q27 : a'.tmps.getD 27 undef = Value.bool true := inv.done 13 _ 27 rfl rfl rfl
        have q28 : a'.tmps.getD 28 undef = undef := inv.done 14 _ 28 rfl rfl rfl
        have q29 : a'.tmps.getD 29 undef = undef := inv.done 15 _ 29 rfl rfl rfl
        have q30 : a'.tmps.getD 30 undef = undef := inv.done 16 _ 30 rfl rfl rfl
        have q31 : a'.tmps.getD 31 undef = undef := inv.done 17 _ 31 rfl rfl rfl
        have q32 : a'.tmps.getD 32 undef = Value.bool true := inv.done 18 _ 32 rfl rfl rfl
        clear inv
        simp only [List.filterMap_cons, List.filterMap_nil, Par.putAll, Act.put, List.setIfInBounds_toArray, List.set_cons_succ, List.set_cons_zero, q14, q15, q16, q17, q18, q19, q20, q21, q22, q23, q24, q25, q26, q27, q28, q29, q30, q31, q32]
        clear q14 q15 q16 q17 q18 q19 q20 q21 q22 q23 q24 q25 q26 q27 q28 q29 q30 q31 q32
        clear a'
        have HF3 := hid (HF2.out.trans (Ext.fr (S := [p, mp, ms]) hX))
        clear hX
        go_wp2
        go_returns
        rw [← HT3.out]
        exact ⟨HF3.out, rfl⟩
      cases b2
      case true =>
        refine Par.wp_region_par (l := [_, _, _, _, _, _, _, _, _, _, _, _, _, _, _, _, _, _, _]) rfl Ext (Par.VL [Par.EQ (Value.pointer (some ⟨rb, 1, none⟩)), Par.EQ (vU z2), Par.EQ (vU ah), Par.EQ (Value.bool false), Par.EQ (Value.bool false), Par.EQ (Value.pointer (some ⟨rb, 1, none⟩)), Par.EQ (vU z2), Par.EQ (pv p), Par.EQ (pv p), Par.EQ (Value.pointer (some ⟨p, 0, none⟩)), Par.EQ (vU s2.last), Par.EQ (Value.bool true), Par.EQ (Value.bool true), Par.EQ (Value.bool true), Par.EQ (undef), Par.EQ (undef), Par.EQ (undef), Par.EQ (undef), Par.EQ (Value.bool true)]) (by kernel_rfl) Ext.refl (fun _ _ _ h1 h2 => Ext.trans h1 h2) (Ext.draw _) (Par.VL_stab ?_) ?_ ?_
        · simp only [List.forall_mem_cons, List.not_mem_nil, false_implies, implies_true, and_true]
          refine ⟨fun _ _ _ _ h => h, fun _ _ _ _ h => h, fun _ _ _ _ h => h, fun _ _ _ _ h => h, fun _ _ _ _ h => h, fun _ _ _ _ h => h, fun _ _ _ _ h => h, fun _ _ _ _ h => h, fun _ _ _ _ h => h, fun _ _ _ _ h => h, fun _ _ _ _ h => h, fun _ _ _ _ h => h, fun _ _ _ _ h => h, fun _ _ _ _ h => h, fun _ _ _ _ h => h, fun _ _ _ _ h => h, fun _ _ _ _ h => h, fun _ _ _ _ h => h, fun _ _ _ _ h => h⟩
        · refine ⟨⟨fun _ _ => trivial, fun ρ w' hX hG hk => ?_⟩, ?_⟩
          · obtain ⟨k0, -⟩ := hk
            have e0 : ρ (.tmp 7) = pv rb := k0
            clear k0
            refine Par.val_k fun K hK => ?_
            unfold Par.val
            (go_simp; exact hK _ _ ⟨Ext.refl _, rfl⟩)
          refine ⟨⟨fun _ _ => trivial, fun ρ w' hX hG hk => ?_⟩, ?_⟩
          · obtain ⟨k0, -⟩ := hk
            have e0 : ρ (.tmp 14) = Value.pointer (some ⟨rb, 1, none⟩) := k0
            clear k0
            refine Par.val_k fun K hK => ?_
            unfold Par.val
            (have cc := (lk2 (hX.obj HB.out)).2.1; go_simp; exact hK _ _ ⟨Ext.refl _, rfl⟩)
          refine ⟨⟨fun _ _ => trivial, fun ρ w' hX hG hk => ?_⟩, ?_⟩
          · exact Par.val_of_run rfl ⟨Ext.refl _, hk.1⟩
          refine ⟨⟨fun _ _ => trivial, fun ρ w' hX hG hk => ?_⟩, ?_⟩
          · obtain ⟨k0, k1, -⟩ := hk
            have e0 : ρ (.tmp 15) = vU z2 := k0
            have e1 : ρ (.tmp 16) = vU ah := k1
            clear k0 k1
            refine Par.val_k fun K hK => ?_
            unfold Par.val
            (go_simp; exact hK _ _ ⟨Ext.refl _, rfl⟩)
          refine ⟨⟨fun _ _ => trivial, fun ρ w' hX hG hk => ?_⟩, ?_⟩
          · exact Par.val_of_run rfl ⟨Ext.refl _, hk.1⟩
          refine ⟨⟨fun _ _ u hu => .inl hu, fun ρ w' hX hG hk => ?_⟩, ?_⟩
          · obtain ⟨k0, -⟩ := hk
            have e0 : ρ (.tmp 7) = pv rb := k0
            clear k0
            refine Par.val_k fun K hK => ?_
            unfold Par.val
            (go_simp; exact hK _ _ ⟨Ext.refl _, rfl⟩)
          refine ⟨⟨fun _ _ u hu => .inl hu, fun ρ w' hX hG hk => ?_⟩, ?_⟩
          · obtain ⟨k0, -⟩ := hk
            have e0 : ρ (.tmp 19) = Value.pointer (some ⟨rb, 1, none⟩) := k0
            clear k0
            refine Par.val_k fun K hK => ?_
            unfold Par.val
            (have cc := (lk2 (hX.obj HB.out)).2.1; go_simp; exact hK _ _ ⟨Ext.refl _, rfl⟩)
          refine ⟨⟨fun _ _ u hu => .inl hu, fun ρ w' hX hG hk => ?_⟩, ?_⟩
          · exact Par.val_of_run rfl ⟨Ext.refl _, hk.1⟩
          refine ⟨⟨fun _ _ u hu => .inl hu, fun ρ w' hX hG hk => ?_⟩, ?_⟩
          · obtain ⟨k0, -⟩ := hk
            have e0 : ρ (.tmp 21) = pv p := k0
            clear k0
            refine Par.val_k fun K hK => ?_
            unfold Par.val
            (go_simp; exact hK _ _ ⟨Ext.refl _, rfl⟩)
          refine ⟨⟨fun _ _ u hu => .inl hu, fun ρ w' hX hG hk => ?_⟩, ?_⟩
          · obtain ⟨k0, -⟩ := hk
            have e0 : ρ (.tmp 22) = pv p := k0
            clear k0
            refine Par.val_k fun K hK => ?_
            unfold Par.val
            (go_simp; exact hK _ _ ⟨Ext.refl _, rfl⟩)
          refine ⟨⟨fun _ _ u hu => .inl hu, fun ρ w' hX hG hk => ?_⟩, ?_⟩
          · obtain ⟨k0, -⟩ := hk
            have e0 : ρ (.tmp 23) = Value.pointer (some ⟨p, 0, none⟩) := k0
            clear k0
            refine Par.val_k fun K hK => ?_
            unfold Par.val
            (have cc := (lk3 (HD2.out.ext hX).hd).1; go_simp; exact hK _ _ ⟨Ext.refl _, rfl⟩)
          refine ⟨⟨fun _ _ u hu => .inl hu, fun ρ w' hX hG hk => ?_⟩, ?_⟩
          · obtain ⟨k0, k1, -⟩ := hk
            have e0 : ρ (.tmp 20) = vU z2 := k0
            have e1 : ρ (.tmp 24) = vU s2.last := k1
            clear k0 k1
            refine Par.val_k fun K hK => ?_
            unfold Par.val
            (go_simp; exact hK _ _ ⟨Ext.refl _, rfl⟩)
          refine ⟨⟨fun _ _ => trivial, fun ρ w' hX hG hk => ?_⟩, ?_⟩
          · obtain ⟨k0, k1, k2, -⟩ := hk
            have e0 : ρ (.tmp 18) = Value.bool false := k0
            have e1 : ρ (Operand.const (Value.bool true)) = (Value.bool true) := k1
            have e2 : ρ (.tmp 25) = Value.bool true := k2
            clear k0 k1 k2
            refine Par.val_k fun K hK => ?_
            unfold Par.val
            (go_simp; exact hK _ _ ⟨Ext.refl _, rfl⟩)
          refine ⟨⟨fun _ _ => trivial, fun ρ w' hX hG hk => ?_⟩, ?_⟩
          · exact Par.val_of_run rfl ⟨Ext.refl _, hk.1⟩
          refine ⟨⟨fun _ _ u hu => .inr rfl, fun ρ w' hX hG hk => ?_⟩, ?_⟩
          · cases hG
          refine ⟨⟨fun _ _ u hu => .inr rfl, fun ρ w' hX hG hk => ?_⟩, ?_⟩
          · cases hG
          refine ⟨⟨fun _ _ u hu => .inr rfl, fun ρ w' hX hG hk => ?_⟩, ?_⟩
          · cases hG
          refine ⟨⟨fun _ _ u hu => .inr rfl, fun ρ w' hX hG hk => ?_⟩, ?_⟩
          · cases hG
          refine ⟨⟨fun _ _ => trivial, fun ρ w' hX hG hk => ?_⟩, ?_⟩
          · obtain ⟨k0, k1, k2, -⟩ := hk
            have e0 : ρ (.tmp 27) = Value.bool true := k0
            have e1 : ρ (Operand.const (Value.bool true)) = (Value.bool true) := k1
            have e2 : ρ (.tmp 31) = undef := k2
            clear k0 k1 k2
            refine Par.val_k fun K hK => ?_
            unfold Par.val
            (go_simp; exact hK _ _ ⟨Ext.refl _, rfl⟩)
          trivial
        intro a' w' inv
        have hX := inv.ext
        have q14 : a'.tmps.getD 14 undef = Value.pointer (some ⟨rb, 1, none⟩) := inv.done 0 _ 14 rfl rfl rfl
        have q15 : a'.tmps.getD 15 undef = vU z2 := inv.done 1 _ 15 rfl rfl rfl
        have q16 : a'.tmps.getD 16 undef = vU ah := inv.done 2 _ 16 rfl rfl rfl
        have q17 : a'.tmps.getD 17 undef = Value.bool false := inv.done 3 _ 17 rfl rfl rfl
        have q18 : a'.tmps.getD 18 undef = Value.bool false := inv.done 4 _ 18 rfl rfl rfl
        have q19 : a'.tmps.getD 19 undef = Value.pointer (some ⟨rb, 1, none⟩) := inv.done 5 _ 19 rfl rfl rfl
        have q20 : a'.tmps.getD 20 undef = vU z2 := inv.done 6 _ 20 rfl rfl rfl
        have q21 : a'.tmps.getD 21 undef = pv p := inv.done 7 _ 21 rfl rfl rfl
        have q22 : a'.tmps.getD 22 undef = pv p := inv.done 8 _ 22 rfl rfl rfl
        have q23 : a'.tmps.getD 23 undef = Value.pointer (some ⟨p, 0, none⟩) := inv.done 9 _ 23 rfl rfl rfl
        have q24 : a'.tmps.getD 24 undef = vU s2.last := inv.done 10 _ 24 rfl rfl rfl
        have q25 : a'.tmps.getD 25 undef = Value.bool true := inv.done 11 _ 25 rfl rfl rfl
        have q26 : a'.tmps.getD 26 undef = Value.bool true := inv.done 12 _ 26 rfl rfl rfl
        have q27 : a'.tmps.getD 27 undef = Value.bool true := inv.done 13 _ 27 rfl rfl rfl
        have q28 : a'.tmps.getD 28 undef = undef := inv.done 14 _ 28 rfl rfl rfl
        have q29 : a'.tmps.getD 29 undef = undef := inv.done 15 _ 29 rfl rfl rfl
        have q30 : a'.tmps.getD 30 undef = undef := inv.done 16 _ 30 rfl rfl rfl
        have q31 : a'.tmps.getD 31 undef = undef := inv.done 17 _ 31 rfl rfl rfl
        have q32 : a'.tmps.getD 32 undef = Value.bool true := inv.done 18 _ 32 rfl rfl rfl
        clear inv
        simp only [List.filterMap_cons, List.filterMap_nil, Par.putAll, Act.put, List.setIfInBounds_toArray, List.set_cons_succ, List.set_cons_zero, q14, q15, q16, q17, q18, q19, q20, q21, q22, q23, q24, q25, q26, q27, q28, q29, q30, q31, q32]
        clear q14 q15 q16 q17 q18 q19 q20 q21 q22 q23 q24 q25 q26 q27 q28 q29 q30 q31 q32
        clear a'
        have HF3 := hid (HF2.out.trans (Ext.fr (S := [p, mp, ms]) hX))
        clear hX
        go_wp2
        go_returns
        rw [← HT3.out]
        exact ⟨HF3.out, rfl⟩
      cases b3
      case true =>
        refine Par.wp_region_par (l := [_, _, _, _, _, _, _, _, _, _, _, _, _, _, _, _, _, _, _]) rfl Ext (Par.VL [Par.EQ (Value.pointer (some ⟨rb, 1, none⟩)), Par.EQ (vU z2), Par.EQ (vU ah), Par.EQ (Value.bool false), Par.EQ (Value.bool false), Par.EQ (Value.pointer (some ⟨rb, 1, none⟩)), Par.EQ (vU z2), Par.EQ (pv p), Par.EQ (pv p), Par.EQ (Value.pointer (some ⟨p, 0, none⟩)), Par.EQ (vU s2.last), Par.EQ (Value.bool false), Par.EQ (Value.bool false), Par.EQ (Value.bool false), Par.EQ (pv p), Par.EQ (Value.pointer (some ⟨rb, 0, none⟩)), Par.EQ (vU z1), Par.EQ (Value.bool true), Par.EQ (Value.bool true)]) (by kernel_rfl) Ext.refl (fun _ _ _ h1 h2 => Ext.trans h1 h2) (Ext.draw _) (Par.VL_stab ?_) ?_ ?_
        · simp only [List.forall_mem_cons, List.not_mem_nil, false_implies, implies_true, and_true]
          refine ⟨fun _ _ _ _ h => h, fun _ _ _ _ h => h, fun _ _ _ _ h => h, fun _ _ _ _ h => h, fun _ _ _ _ h => h, fun _ _ _ _ h => h, fun _ _ _ _ h => h, fun _ _ _ _ h => h, fun _ _ _ _ h => h, fun _ _ _ _ h => h, fun _ _ _ _ h => h, fun _ _ _ _ h => h, fun _ _ _ _ h => h, fun _ _ _ _ h => h, fun _ _ _ _ h => h, fun _ _ _ _ h => h, fun _ _ _ _ h => h, fun _ _ _ _ h => h, fun _ _ _ _ h => h⟩
        · refine ⟨⟨fun _ _ => trivial, fun ρ w' hX hG hk => ?_⟩, ?_⟩
          · obtain ⟨k0, -⟩ := hk
            have e0 : ρ (.tmp 7) = pv rb := k0
            clear k0
            refine Par.val_k fun K hK => ?_
            unfold Par.val
            (go_simp; exact hK _ _ ⟨Ext.refl _, rfl⟩)
          refine ⟨⟨fun _ _ => trivial, fun ρ w' hX hG hk => ?_⟩, ?_⟩
          · obtain ⟨k0, -⟩ := hk
            have e0 : ρ (.tmp 14) = Value.pointer (some ⟨rb, 1, none⟩) := k0
            clear k0
            refine Par.val_k fun K hK => ?_
            unfold Par.val
            (have cc := (lk2 (hX.obj HB.out)).2.1; go_simp; exact hK _ _ ⟨Ext.refl _, rfl⟩)
          refine ⟨⟨fun _ _ => trivial, fun ρ w' hX hG hk => ?_⟩, ?_⟩
          · exact Par.val_of_run rfl ⟨Ext.refl _, hk.1⟩
          refine ⟨⟨fun _ _ => trivial, fun ρ w' hX hG hk => ?_⟩, ?_⟩
          · obtain ⟨k0, k1, -⟩ := hk
            have e0 : ρ (.tmp 15) = vU z2 := k0
            have e1 : ρ (.tmp 16) = vU ah := k1
            clear k0 k1
            refine Par.val_k fun K hK => ?_
            unfold Par.val
            (go_simp; exact hK _ _ ⟨Ext.refl _, rfl⟩)
          refine ⟨⟨fun _ _ => trivial, fun ρ w' hX hG hk => ?_⟩, ?_⟩
          · exact Par.val_of_run rfl ⟨Ext.refl _, hk.1⟩
          refine ⟨⟨fun _ _ u hu => .inl hu, fun ρ w' hX hG hk => ?_⟩, ?_⟩
          · obtain ⟨k0, -⟩ := hk
            have e0 : ρ (.tmp 7) = pv rb := k0
            clear k0
            refine Par.val_k fun K hK => ?_
            unfold Par.val
            (go_simp; exact hK _ _ ⟨Ext.refl _, rfl⟩)
          refine ⟨⟨fun _ _ u hu => .inl hu, fun ρ w' hX hG hk => ?_⟩, ?_⟩
          · obtain ⟨k0, -⟩ := hk
            have e0 : ρ (.tmp 19) = Value.pointer (some ⟨rb, 1, none⟩) := k0
            clear k0
            refine Par.val_k fun K hK => ?_
            unfold Par.val
            (have cc := (lk2 (hX.obj HB.out)).2.1; go_simp; exact hK _ _ ⟨Ext.refl _, rfl⟩)
          refine ⟨⟨fun _ _ u hu => .inl hu, fun ρ w' hX hG hk => ?_⟩, ?_⟩
          · exact Par.val_of_run rfl ⟨Ext.refl _, hk.1⟩
          refine ⟨⟨fun _ _ u hu => .inl hu, fun ρ w' hX hG hk => ?_⟩, ?_⟩
          · obtain ⟨k0, -⟩ := hk
            have e0 : ρ (.tmp 21) = pv p := k0
            clear k0
            refine Par.val_k fun K hK => ?_
            unfold Par.val
            (go_simp; exact hK _ _ ⟨Ext.refl _, rfl⟩)
          refine ⟨⟨fun _ _ u hu => .inl hu, fun ρ w' hX hG hk => ?_⟩, ?_⟩
          · obtain ⟨k0, -⟩ := hk
            have e0 : ρ (.tmp 22) = pv p := k0
            clear k0
            refine Par.val_k fun K hK => ?_
            unfold Par.val
            (go_simp; exact hK _ _ ⟨Ext.refl _, rfl⟩)
          refine ⟨⟨fun _ _ u hu => .inl hu, fun ρ w' hX hG hk => ?_⟩, ?_⟩
          · obtain ⟨k0, -⟩ := hk
            have e0 : ρ (.tmp 23) = Value.pointer (some ⟨p, 0, none⟩) := k0
            clear k0
            refine Par.val_k fun K hK => ?_
            unfold Par.val
            (have cc := (lk3 (HD2.out.ext hX).hd).1; go_simp; exact hK _ _ ⟨Ext.refl _, rfl⟩)
          refine ⟨⟨fun _ _ u hu => .inl hu, fun ρ w' hX hG hk => ?_⟩, ?_⟩
          · obtain ⟨k0, k1, -⟩ := hk
            have e0 : ρ (.tmp 20) = vU z2 := k0
            have e1 : ρ (.tmp 24) = vU s2.last := k1
            clear k0 k1
            refine Par.val_k fun K hK => ?_
            unfold Par.val
            (go_simp; exact hK _ _ ⟨Ext.refl _, rfl⟩)
          refine ⟨⟨fun _ _ => trivial, fun ρ w' hX hG hk => ?_⟩, ?_⟩
          · obtain ⟨k0, k1, k2, -⟩ := hk
            have e0 : ρ (.tmp 18) = Value.bool false := k0
            have e1 : ρ (Operand.const (Value.bool true)) = (Value.bool true) := k1
            have e2 : ρ (.tmp 25) = Value.bool false := k2
            clear k0 k1 k2
            refine Par.val_k fun K hK => ?_
            unfold Par.val
            (go_simp; exact hK _ _ ⟨Ext.refl _, rfl⟩)
          refine ⟨⟨fun _ _ => trivial, fun ρ w' hX hG hk => ?_⟩, ?_⟩
          · exact Par.val_of_run rfl ⟨Ext.refl _, hk.1⟩
          refine ⟨⟨fun _ _ u hu => .inl hu, fun ρ w' hX hG hk => ?_⟩, ?_⟩
          · exact Par.val_of_run rfl ⟨Ext.refl _, hk.1⟩
          refine ⟨⟨fun _ _ u hu => .inl hu, fun ρ w' hX hG hk => ?_⟩, ?_⟩
          · obtain ⟨k0, -⟩ := hk
            have e0 : ρ (.tmp 7) = pv rb := k0
            clear k0
            refine Par.val_k fun K hK => ?_
            unfold Par.val
            (go_simp; exact hK _ _ ⟨Ext.refl _, rfl⟩)
          refine ⟨⟨fun _ _ u hu => .inl hu, fun ρ w' hX hG hk => ?_⟩, ?_⟩
          · obtain ⟨k0, -⟩ := hk
            have e0 : ρ (.tmp 29) = Value.pointer (some ⟨rb, 0, none⟩) := k0
            clear k0
            refine Par.val_k fun K hK => ?_
            unfold Par.val
            (have cc := (lk2 (hX.obj HB.out)).1; go_simp; exact hK _ _ ⟨Ext.refl _, rfl⟩)
          refine ⟨⟨fun _ _ u hu => .inl hu, fun ρ w' hX hG hk => ?_⟩, ?_⟩
          · obtain ⟨k0, k1, k2, -⟩ := hk
            have e0 := k0
            have e1 : ρ (.tmp 28) = pv p := k1
            have e2 : ρ (.tmp 30) = vU z1 := k2
            clear k0 k1 k2
            refine Par.val_k fun K hK => ?_
            unfold Par.val
            refine Par.val_call Tryd.func28 (by kernel_rfl) rfl e0 ?_
            simp only [List.map_toArray, List.map_cons, List.map_nil, e1, e2]
            refine (dhas_any z1 (HD2.out.ext hX)).mono ?_
            rintro e w2 ⟨rfl, rfl⟩
            exact ⟨_, rfl, hK _ _ ⟨Ext.refl _, (congrArg Value.bool HB3.out)⟩⟩
          refine ⟨⟨fun _ _ => trivial, fun ρ w' hX hG hk => ?_⟩, ?_⟩
          · obtain ⟨k0, k1, k2, -⟩ := hk
            have e0 : ρ (.tmp 27) = Value.bool false := k0
            have e1 : ρ (Operand.const (Value.bool true)) = (Value.bool true) := k1
            have e2 : ρ (.tmp 31) = Value.bool true := k2
            clear k0 k1 k2
            refine Par.val_k fun K hK => ?_
            unfold Par.val
            (go_simp; exact hK _ _ ⟨Ext.refl _, rfl⟩)
          trivial
        intro a' w' inv
        have hX := inv.ext
        have q14 : a'.tmps.getD 14 undef = Value.pointer (some ⟨rb, 1, none⟩) := inv.done 0 _ 14 rfl rfl rfl
        have q15 : a'.tmps.getD 15 undef = vU z2 := inv.done 1 _ 15 rfl rfl rfl
        have q16 : a'.tmps.getD 16 undef = vU ah := inv.done 2 _ 16 rfl rfl rfl
        have q17 : a'.tmps.getD 17 undef = Value.bool false := inv.done 3 _ 17 rfl rfl rfl
        have q18 : a'.tmps.getD 18 undef = Value.bool false := inv.done 4 _ 18 rfl rfl rfl
        have q19 : a'.tmps.getD 19 undef = Value.pointer (some ⟨rb, 1, none⟩) := inv.done 5 _ 19 rfl rfl rfl
        have q20 : a'.tmps.getD 20 undef = vU z2 := inv.done 6 _ 20 rfl rfl rfl
        have q21 : a'.tmps.getD 21 undef = pv p := inv.done 7 _ 21 rfl rfl rfl
        have q22 : a'.tmps.getD 22 undef = pv p := inv.done 8 _ 22 rfl rfl rfl
        have q23 : a'.tmps.getD 23 undef = Value.pointer (some ⟨p, 0, none⟩) := inv.done 9 _ 23 rfl rfl rfl
        have q24 : a'.tmps.getD 24 undef = vU s2.last := inv.done 10 _ 24 rfl rfl rfl
        have q25 : a'.tmps.getD 25 undef = Value.bool false := inv.done 11 _ 25 rfl rfl rfl
        have q26 : a'.tmps.getD 26 undef = Value.bool false := inv.done 12 _ 26 rfl rfl rfl
        have q27 : a'.tmps.getD 27 undef = Value.bool false := inv.done 13 _ 27 rfl rfl rfl
        have q28 : a'.tmps.getD 28 undef = pv p := inv.done 14 _ 28 rfl rfl rfl
        have q29 : a'.tmps.getD 29 undef = Value.pointer (some ⟨rb, 0, none⟩) := inv.done 15 _ 29 rfl rfl rfl
        have q30 : a'.tmps.getD 30 undef = vU z1 := inv.done 16 _ 30 rfl rfl rfl
        have q31 : a'.tmps.getD 31 undef = Value.bool true := inv.done 17 _ 31 rfl rfl rfl
        have q32 : a'.tmps.getD 32 undef = Value.bool true := inv.done 18 _ 32 rfl rfl rfl
        clear inv
        simp only [List.filterMap_cons, List.filterMap_nil, Par.putAll, Act.put, List.setIfInBounds_toArray, List.set_cons_succ, List.set_cons_zero, q14, q15, q16, q17, q18, q19, q20, q21, q22, q23, q24, q25, q26, q27, q28, q29, q30, q31, q32]
        clear q14 q15 q16 q17 q18 q19 q20 q21 q22 q23 q24 q25 q26 q27 q28 q29 q30 q31 q32
        clear a'
        have HF3 := hid (HF2.out.trans (Ext.fr (S := [p, mp, ms]) hX))
        clear hX
        go_wp2
        go_returns
        rw [← HT3.out]
        exact ⟨HF3.out, rfl⟩
      refine Par.wp_region_par (l := [_, _, _, _, _, _, _, _, _, _, _, _, _, _, _, _, _, _, _]) rfl Ext (Par.VL [Par.EQ (Value.pointer (some ⟨rb, 1, none⟩)), Par.EQ (vU z2), Par.EQ (vU ah), Par.EQ (Value.bool false), Par.EQ (Value.bool false), Par.EQ (Value.pointer (some ⟨rb, 1, none⟩)), Par.EQ (vU z2), Par.EQ (pv p), Par.EQ (pv p), Par.EQ (Value.pointer (some ⟨p, 0, none⟩)), Par.EQ (vU s2.last), Par.EQ (Value.bool false), Par.EQ (Value.bool false), Par.EQ (Value.bool false), Par.EQ (pv p), Par.EQ (Value.pointer (some ⟨rb, 0, none⟩)), Par.EQ (vU z1), Par.EQ (Value.bool false), Par.EQ (Value.bool false)]) (by kernel_rfl) Ext.refl (fun _ _ _ h1 h2 => Ext.trans h1 h2) (Ext.draw _) (Par.VL_stab ?_) ?_ ?_
      · simp only [List.forall_mem_cons, List.not_mem_nil, false_implies, implies_true, and_true]
        refine ⟨fun _ _ _ _ h => h, fun _ _ _ _ h => h, fun _ _ _ _ h => h, fun _ _ _ _ h => h, fun _ _ _ _ h => h, fun _ _ _ _ h => h, fun _ _ _ _ h => h, fun _ _ _ _ h => h, fun _ _ _ _ h => h, fun _ _ _ _ h => h, fun _ _ _ _ h => h, fun _ _ _ _ h => h, fun _ _ _ _ h => h, fun _ _ _ _ h => h, fun _ _ _ _ h => h, fun _ _ _ _ h => h, fun _ _ _ _ h => h, fun _ _ _ _ h => h, fun _ _ _ _ h => h⟩
      · refine ⟨⟨fun _ _ => trivial, fun ρ w' hX hG hk => ?_⟩, ?_⟩
        · obtain ⟨k0, -⟩ := hk
          have e0 : ρ (.tmp 7) = pv rb := k0
          clear k0
          refine Par.val_k fun K hK => ?_
          unfold Par.val
          (go_simp; exact hK _ _ ⟨Ext.refl _, rfl⟩)
        refine ⟨⟨fun _ _ => trivial, fun ρ w' hX hG hk => ?_⟩, ?_⟩
        · obtain ⟨k0, -⟩ := hk
          have e0 : ρ (.tmp 14) = Value.pointer (some ⟨rb, 1, none⟩) := k0
          clear k0
          refine Par.val_k fun K hK => ?_
          unfold Par.val
          (have cc := (lk2 (hX.obj HB.out)).2.1; go_simp; exact hK _ _ ⟨Ext.refl _, rfl⟩)
        refine ⟨⟨fun _ _ => trivial, fun ρ w' hX hG hk => ?_⟩, ?_⟩
        · exact Par.val_of_run rfl ⟨Ext.refl _, hk.1⟩
        refine ⟨⟨fun _ _ => trivial, fun ρ w' hX hG hk => ?_⟩, ?_⟩
        · obtain ⟨k0, k1, -⟩ := hk
          have e0 : ρ (.tmp 15) = vU z2 := k0
          have e1 : ρ (.tmp 16) = vU ah := k1
          clear k0 k1
          refine Par.val_k fun K hK => ?_
          unfold Par.val
          (go_simp; exact hK _ _ ⟨Ext.refl _, rfl⟩)
        refine ⟨⟨fun _ _ => trivial, fun ρ w' hX hG hk => ?_⟩, ?_⟩
        · exact Par.val_of_run rfl ⟨Ext.refl _, hk.1⟩
        refine ⟨⟨fun _ _ u hu => .inl hu, fun ρ w' hX hG hk => ?_⟩, ?_⟩
        · obtain ⟨k0, -⟩ := hk
          have e0 : ρ (.tmp 7) = pv rb := k0
          clear k0
          refine Par.val_k fun K hK => ?_
          unfold Par.val
          (go_simp; exact hK _ _ ⟨Ext.refl _, rfl⟩)
        refine ⟨⟨fun _ _ u hu => .inl hu, fun ρ w' hX hG hk => ?_⟩, ?_⟩
        · obtain ⟨k0, -⟩ := hk
          have e0 : ρ (.tmp 19) = Value.pointer (some ⟨rb, 1, none⟩) := k0
          clear k0
          refine Par.val_k fun K hK => ?_
          unfold Par.val
          (have cc := (lk2 (hX.obj HB.out)).2.1; go_simp; exact hK _ _ ⟨Ext.refl _, rfl⟩)
        refine ⟨⟨fun _ _ u hu => .inl hu, fun ρ w' hX hG hk => ?_⟩, ?_⟩
        · exact Par.val_of_run rfl ⟨Ext.refl _, hk.1⟩
        refine ⟨⟨fun _ _ u hu => .inl hu, fun ρ w' hX hG hk => ?_⟩, ?_⟩
        · obtain ⟨k0, -⟩ := hk
          have e0 : ρ (.tmp 21) = pv p := k0
          clear k0
          refine Par.val_k fun K hK => ?_
          unfold Par.val
          (go_simp; exact hK _ _ ⟨Ext.refl _, rfl⟩)
        refine ⟨⟨fun _ _ u hu => .inl hu, fun ρ w' hX hG hk => ?_⟩, ?_⟩
        · obtain ⟨k0, -⟩ := hk
          have e0 : ρ (.tmp 22) = pv p := k0
          clear k0
          refine Par.val_k fun K hK => ?_
          unfold Par.val
          (go_simp; exact hK _ _ ⟨Ext.refl _, rfl⟩)
        refine ⟨⟨fun _ _ u hu => .inl hu, fun ρ w' hX hG hk => ?_⟩, ?_⟩
        · obtain ⟨k0, -⟩ := hk
          have e0 : ρ (.tmp 23) = Value.pointer (some ⟨p, 0, none⟩) := k0
          clear k0
          refine Par.val_k fun K hK => ?_
          unfold Par.val
          (have cc := (lk3 (HD2.out.ext hX).hd).1; go_simp; exact hK _ _ ⟨Ext.refl _, rfl⟩)
        refine ⟨⟨fun _ _ u hu => .inl hu, fun ρ w' hX hG hk => ?_⟩, ?_⟩
        · obtain ⟨k0, k1, -⟩ := hk
          have e0 : ρ (.tmp 20) = vU z2 := k0
          have e1 : ρ (.tmp 24) = vU s2.last := k1
          clear k0 k1
          refine Par.val_k fun K hK => ?_
          unfold Par.val
          (go_simp; exact hK _ _ ⟨Ext.refl _, rfl⟩)
        refine ⟨⟨fun _ _ => trivial, fun ρ w' hX hG hk => ?_⟩, ?_⟩
        · obtain ⟨k0, k1, k2, -⟩ := hk
          have e0 : ρ (.tmp 18) = Value.bool false := k0
          have e1 : ρ (Operand.const (Value.bool true)) = (Value.bool true) := k1
          have e2 : ρ (.tmp 25) = Value.bool false := k2
          clear k0 k1 k2
          refine Par.val_k fun K hK => ?_
          unfold Par.val
          (go_simp; exact hK _ _ ⟨Ext.refl _, rfl⟩)
        refine ⟨⟨fun _ _ => trivial, fun ρ w' hX hG hk => ?_⟩, ?_⟩
        · exact Par.val_of_run rfl ⟨Ext.refl _, hk.1⟩
        refine ⟨⟨fun _ _ u hu => .inl hu, fun ρ w' hX hG hk => ?_⟩, ?_⟩
        · exact Par.val_of_run rfl ⟨Ext.refl _, hk.1⟩
        refine ⟨⟨fun _ _ u hu => .inl hu, fun ρ w' hX hG hk => ?_⟩, ?_⟩
        · obtain ⟨k0, -⟩ := hk
          have e0 : ρ (.tmp 7) = pv rb := k0
          clear k0
          refine Par.val_k fun K hK => ?_
          unfold Par.val
          (go_simp; exact hK _ _ ⟨Ext.refl _, rfl⟩)
        refine ⟨⟨fun _ _ u hu => .inl hu, fun ρ w' hX hG hk => ?_⟩, ?_⟩
        · obtain ⟨k0, -⟩ := hk
          have e0 : ρ (.tmp 29) = Value.pointer (some ⟨rb, 0, none⟩) := k0
          clear k0
          refine Par.val_k fun K hK => ?_
          unfold Par.val
          (have cc := (lk2 (hX.obj HB.out)).1; go_simp; exact hK _ _ ⟨Ext.refl _, rfl⟩)
        refine ⟨⟨fun _ _ u hu => .inl hu, fun ρ w' hX hG hk => ?_⟩, ?_⟩
        · obtain ⟨k0, k1, k2, -⟩ := hk
          have e0 := k0
          have e1 : ρ (.tmp 28) = pv p := k1
          have e2 : ρ (.tmp 30) = vU z1 := k2
          clear k0 k1 k2
          refine Par.val_k fun K hK => ?_
          unfold Par.val
          refine Par.val_call Tryd.func28 (by kernel_rfl) rfl e0 ?_
          simp only [List.map_toArray, List.map_cons, List.map_nil, e1, e2]
          refine (dhas_any z1 (HD2.out.ext hX)).mono ?_
          rintro e w2 ⟨rfl, rfl⟩
          exact ⟨_, rfl, hK _ _ ⟨Ext.refl _, (congrArg Value.bool HB3.out)⟩⟩
        refine ⟨⟨fun _ _ => trivial, fun ρ w' hX hG hk => ?_⟩, ?_⟩
        · obtain ⟨k0, k1, k2, -⟩ := hk
          have e0 : ρ (.tmp 27) = Value.bool false := k0
          have e1 : ρ (Operand.const (Value.bool true)) = (Value.bool true) := k1
          have e2 : ρ (.tmp 31) = Value.bool false := k2
          clear k0 k1 k2
          refine Par.val_k fun K hK => ?_
          unfold Par.val
          (go_simp; exact hK _ _ ⟨Ext.refl _, rfl⟩)
        trivial
      intro a' w' inv
      have hX := inv.ext
      have q14 : a'.tmps.getD 14 undef = Value.pointer (some ⟨rb, 1, none⟩) := inv.done 0 _ 14 rfl rfl rfl
      have q15 : a'.tmps.getD 15 undef = vU z2 := inv.done 1 _ 15 rfl rfl rfl
      have q16 : a'.tmps.getD 16 undef = vU ah := inv.done 2 _ 16 rfl rfl rfl
      have q17 : a'.tmps.getD 17 undef = Value.bool false := inv.done 3 _ 17 rfl rfl rfl
      have q18 : a'.tmps.getD 18 undef = Value.bool false := inv.done 4 _ 18 rfl rfl rfl
      have q19 : a'.tmps.getD 19 undef = Value.pointer (some ⟨rb, 1, none⟩) := inv.done 5 _ 19 rfl rfl rfl
      have q20 : a'.tmps.getD 20 undef = vU z2 := inv.done 6 _ 20 rfl rfl rfl
      have q21 : a'.tmps.getD 21 undef = pv p := inv.done 7 _ 21 rfl rfl rfl
      have q22 : a'.tmps.getD 22 undef = pv p := inv.done 8 _ 22 rfl rfl rfl
      have q23 : a'.tmps.getD 23 undef = Value.pointer (some ⟨p, 0, none⟩) := inv.done 9 _ 23 rfl rfl rfl
      have q24 : a'.tmps.getD 24 undef = vU s2.last := inv.done 10 _ 24 rfl rfl rfl
      have q25 : a'.tmps.getD 25 undef = Value.bool false := inv.done 11 _ 25 rfl rfl rfl
      have q26 : a'.tmps.getD 26 undef = Value.bool false := inv.done 12 _ 26 rfl rfl rfl
      have q27 : a'.tmps.getD 27 undef = Value.bool false := inv.done 13 _ 27 rfl rfl rfl
      have q28 : a'.tmps.getD 28 undef = pv p := inv.done 14 _ 28 rfl rfl rfl
      have q29 : a'.tmps.getD 29 undef = Value.pointer (some ⟨rb, 0, none⟩) := inv.done 15 _ 29 rfl rfl rfl
      have q30 : a'.tmps.getD 30 undef = vU z1 := inv.done 16 _ 30 rfl rfl rfl
      have q31 : a'.tmps.getD 31 undef = Value.bool false := inv.done 17 _ 31 rfl rfl rfl
      have q32 : a'.tmps.getD 32 undef = Value.bool false := inv.done 18 _ 32 rfl rfl rfl
      clear inv
      simp only [List.filterMap_cons, List.filterMap_nil, Par.putAll, Act.put, List.setIfInBounds_toArray, List.set_cons_succ, List.set_cons_zero, q14, q15, q16, q17, q18, q19, q20, q21, q22, q23, q24, q25, q26, q27, q28, q29, q30, q31, q32]
      clear q14 q15 q16 q17 q18 q19 q20 q21 q22 q23 q24 q25 q26 q27 q28 q29 q30 q31 q32
      clear a'
      have HF3 := hid (HF2.out.trans (Ext.fr (S := [p, mp, ms]) hX))
      have HD3 := hid (HD2.out.ext hX)
      have HB4 := hid (hX.obj HB.out)
      clear hX HF2 HD2 HB
      obtain ⟨HNO, HT4⟩ : Hid (s2.rows.lookup z1 = none) ∧ Hid (takeR z2 (rows.drop (k + 1)) { s2 with rows := s2.rows ++ [(z1, z2)] } = O) := ⟨hid (by have := HB3.out; cases hq : s2.rows.lookup z1 <;> simp_all), hid (by have := HT3.out; simpa using this)⟩
      obtain ⟨W6, rfl⟩ : ∃ x, x = w' := ⟨_, rfl⟩
      go_wp2_with fail
      refine ParE.wp_region_e (l := [_, _, _, _, _, _, _, _, _]) rfl (Rg.Ch [8] [] (OneQ W6 fun w' => DD w' p mp ms { s2 with rows := s2.rows ++ [(z1, z2)] } ∧ Fr [mp] W6 w')) (ParC.VC [ParC.EQ (pv p), ParC.EQ (pv p), ParC.EQ (Value.pointer (some ⟨p, 1, none⟩)), ParC.EQ (Value.map (some mp)), ParC.EQ (Value.pointer (some ⟨rb, 0, none⟩)), ParC.EQ (vU z1), ParC.EQ (Value.pointer (some ⟨rb, 1, none⟩)), ParC.EQ (vU z2), fun _ => True]) (by kernel_rfl) (by kernel_rfl) (Rg.Ch.start ⟨fun _ => Ext.draw _, trivial⟩) ?_ ?_
      · refine ⟨fun L ρ w' hR hC hL hd hk => ?_, ?_⟩
        · exact Par.val_of_run rfl ⟨hR.other (by decide), hk.1⟩
        refine ⟨fun L ρ w' hR hC hL hd hk => ?_, ?_⟩
        · obtain ⟨k0, -⟩ := hk
          have e0 : ρ (.tmp 33) = pv p := k0
          clear k0
          refine Par.val_k fun K hK => ?_
          unfold Par.val
          (go_simp; exact hK _ _ ⟨hR.other (by decide), rfl⟩)
        refine ⟨fun L ρ w' hR hC hL hd hk => ?_, ?_⟩
        · obtain ⟨k0, -⟩ := hk
          have e0 : ρ (.tmp 34) = pv p := k0
          clear k0
          refine Par.val_k fun K hK => ?_
          unfold Par.val
          (go_simp; exact hK _ _ ⟨hR.other (by decide), rfl⟩)
        refine ⟨fun L ρ w' hR hC hL hd hk => ?_, ?_⟩
        · obtain ⟨k0, -⟩ := hk
          have e0 : ρ (.tmp 35) = Value.pointer (some ⟨p, 1, none⟩) := k0
          clear k0
          refine Par.val_k fun K hK => ?_
          unfold Par.val
          (obtain ⟨i, hi, hq⟩ := hR.some 0 rfl (hC.notyet 8 3 hL (by kernel_rfl)); have cc := (lk3 (HD3.out.ext (hq.1 (by omega))).hd).2.1; go_simp; exact hK _ _ ⟨hR.other (by decide), rfl⟩)
        refine ⟨fun L ρ w' hR hC hL hd hk => ?_, ?_⟩
        · obtain ⟨k0, -⟩ := hk
          have e0 : ρ (.tmp 7) = pv rb := k0
          clear k0
          refine Par.val_k fun K hK => ?_
          unfold Par.val
          (go_simp; exact hK _ _ ⟨hR.other (by decide), rfl⟩)
        refine ⟨fun L ρ w' hR hC hL hd hk => ?_, ?_⟩
        · obtain ⟨k0, -⟩ := hk
          have e0 : ρ (.tmp 37) = Value.pointer (some ⟨rb, 0, none⟩) := k0
          clear k0
          refine Par.val_k fun K hK => ?_
          unfold Par.val
          (obtain ⟨i, hi, hq⟩ := hR.some 0 rfl (hC.notyet 8 5 hL (by kernel_rfl)); have cc := (lk2 ((hq.1 (by omega)).obj HB4.out)).1; go_simp; exact hK _ _ ⟨hR.other (by decide), rfl⟩)
        refine ⟨fun L ρ w' hR hC hL hd hk => ?_, ?_⟩
        · obtain ⟨k0, -⟩ := hk
          have e0 : ρ (.tmp 7) = pv rb := k0
          clear k0
          refine Par.val_k fun K hK => ?_
          unfold Par.val
          (go_simp; exact hK _ _ ⟨hR.other (by decide), rfl⟩)
        refine ⟨fun L ρ w' hR hC hL hd hk => ?_, ?_⟩
        · obtain ⟨k0, -⟩ := hk
          have e0 : ρ (.tmp 39) = Value.pointer (some ⟨rb, 1, none⟩) := k0
          clear k0
          refine Par.val_k fun K hK => ?_
          unfold Par.val
          (obtain ⟨i, hi, hq⟩ := hR.some 0 rfl (hC.notyet 8 7 hL (by kernel_rfl)); have cc := (lk2 ((hq.1 (by omega)).obj HB4.out)).2.1; go_simp; exact hK _ _ ⟨hR.other (by decide), rfl⟩)
        refine ⟨fun L ρ w' hR hC hL hd hk => ?_, ?_⟩
        · obtain ⟨k0, k1, k2, -⟩ := hk
          have e0 : ρ (.tmp 36) = Value.map (some mp) := k0
          have e1 : ρ (.tmp 38) = vU z1 := k1
          have e2 : ρ (.tmp 40) = vU z2 := k2
          clear k0 k1 k2
          refine Par.val_k fun K hK => ?_
          unfold Par.val
          (obtain ⟨hq, hs⟩ := hR.go 0 rfl hL (.inl rfl) (by decide); have hx := hq.1 (by decide); have hD := HD3.out.ext hx; obtain ⟨l, hl, pl⟩ := hD.rm; have hLL := HL.out; have hKM := HKM.out; obtain ⟨w4, hrun, hl4, ht4⟩ := hl.store Tryd.underlying65 (by have := pl.length_eq; omega) (perm_nodup pl hD.nr) z1 z2; have hlk : l.lookup z1 = none := (perm_lookup pl hD.nr z1).trans HNO.out; have hF3 := fr_turned (S := [mp]) ht4 (by simp); have hres : Hid (DD w4 p mp ms { s2 with rows := s2.rows ++ [(z1, z2)] } ∧ Fr [mp] W6 w4) := hid ⟨⟨(hF3.block p hD.lt.1 (by simpa using hD.pm)).trans hD.hd, ⟨_, hl4, by rw [noK_none hlk]; exact (List.Perm.cons _ pl).trans (List.perm_append_singleton _ _).symm⟩, (by obtain ⟨k7, hk2, pk⟩ := hD.sm; exact ⟨k7, hk2.fr hF3 (by simpa using hD.ne.symm), pk⟩), hD.ne, by (have h7 := hD.nr; simp only [List.map_append, List.map_cons, List.map_nil]; refine List.nodup_append.2 ⟨h7, by simp, fun a ha b hb => ?_⟩; simp at hb; subst hb; intro e; exact lku_none.1 HNO.out (e ▸ ha)), hD.ns, by (simp only [List.length_append, List.length_cons, List.length_nil]; omega), hD.ls⟩, (Ext.fr hx).trans hF3⟩; clear hl4 ht4 hF3 pl hlk hl hD hLL hKM; go_simp; exact hK _ _ ⟨hs none _ _ ⟨fun h => absurd h (by decide), hres.out⟩, trivial⟩)
        trivial
      intro a' w' inv hR
      have q33 : a'.tmps.getD 33 undef = pv p := inv.done 0 _ 33 rfl rfl rfl
      have q34 : a'.tmps.getD 34 undef = pv p := inv.done 1 _ 34 rfl rfl rfl
      have q35 : a'.tmps.getD 35 undef = Value.pointer (some ⟨p, 1, none⟩) := inv.done 2 _ 35 rfl rfl rfl
      have q36 : a'.tmps.getD 36 undef = Value.map (some mp) := inv.done 3 _ 36 rfl rfl rfl
      have q37 : a'.tmps.getD 37 undef = Value.pointer (some ⟨rb, 0, none⟩) := inv.done 4 _ 37 rfl rfl rfl
      have q38 : a'.tmps.getD 38 undef = vU z1 := inv.done 5 _ 38 rfl rfl rfl
      have q39 : a'.tmps.getD 39 undef = Value.pointer (some ⟨rb, 1, none⟩) := inv.done 6 _ 39 rfl rfl rfl
      have q40 : a'.tmps.getD 40 undef = vU z2 := inv.done 7 _ 40 rfl rfl rfl
      clear inv
      simp only [List.filterMap_cons, List.filterMap_nil, Par.putAll, Act.put, List.setIfInBounds_toArray, List.set_cons_succ, List.set_cons_zero, q33, q34, q35, q36, q37, q38, q39, q40]
      clear q33 q34 q35 q36 q37 q38 q39 q40
      obtain ⟨-, hrd, hf⟩ := Rg.Ch.fin hR (by decide) 1 rfl; have HRD := hid hrd; have HF4 := hid (HF3.out.trans (hf.mono (T := [p, mp, ms]) (by simp))); have HB5 := hid ((hf.block rb (Array.getElem?_eq_some_iff.1 HB4.out).1 (fun hm => by (obtain ⟨l, hl, -⟩ := HD3.out.rm; obtain ⟨es, ck, hb⟩ := hl.block; obtain rfl : rb = mp := (by simpa using hm); rw [HB4.out] at hb; cases hb))).trans HB4.out); clear hrd hf hR
      try clear a'
      have q1 := (lk2 HB5.out).2.1
      go_wp2
      go_roundw
      case rel => exact ⟨k + 1, z2, _, by omega, by go_num, rfl, HT4, HRD, hid (by have := HL.out; have := HKM.out; simp only [List.length_append, List.length_cons, List.length_nil]; omega), HF4⟩
      case measure =>
        show rows.length - ((k : Int) + 1).toNat < rows.length - ((k : Int)).toNat
        omega
    · have hkf : decide ((k : Int) < (rows.length : Int)) = false := by simp; omega
      obtain rfl : k = rows.length := by omega
      have HT2 : Hid (some s2 = O) := hid (by have := HT.out; rw [List.drop_length, takeR] at this; exact this)
      go_wp2
      go_returns
      rw [← HT2.out]
      exact ⟨HF.out, rfl, HD.out⟩
end Go.Proofs.YtfpljeblehieiaaDoor
