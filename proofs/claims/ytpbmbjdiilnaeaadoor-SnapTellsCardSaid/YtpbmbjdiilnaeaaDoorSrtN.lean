/- partialInsertionSort of a part of a row of numbers. -/
import Derived.Test.YtpbmbjdiilnaeaaDoorSrtV
import Derived.Deep.CutBlock
set_option linter.unusedSimpArgs false
set_option linter.unusedVariables false
namespace Go.Proofs.YtpbmbjdiilnaeaaDoor
open Go Go.RowKit Go.Tum Go.ChangeMaps Go.Sort
open Go.ParB (upd Lof)
open Go.ParE (putS slotsR slots Closed)

theorem scanSorted_stop (d : Array UInt64) (b i : Nat) (h : b ≤ i) : scanSorted ltU d b i = i := by
  rw [scanSorted, if_neg]
  simp; omega
theorem scanSorted_go (d : Array UInt64) (b i q : Nat) (hq : q + 1 = i) (h : i < b) : scanSorted ltU d b i = if ltU d[i]! d[q]! then i else scanSorted ltU d b (i + 1) := by
  subst hq
  rw [scanSorted]
  have : decide (q + 1 < b) = true := by simpa using h
  simp only [this, Bool.true_and, Nat.add_sub_cancel]
  cases ltU d[q + 1]! d[q]! <;> simp
theorem shiftDown_go (j q : Nat) (hq : q + 1 = j) (d : Array UInt64) : shiftDown ltU j d = if ltU d[j]! d[q]! then shiftDown ltU q (swp d j q) else d := by
  subst hq
  rw [shiftDown]
  cases ltU d[q + 1]! d[q]! <;> simp
theorem shiftUp_go (b j q : Nat) (hq : q + 1 = j) (h : j < b) (d : Array UInt64) : shiftUp ltU b j d = if ltU d[j]! d[q]! then shiftUp ltU b (j + 1) (swp d j q) else d := by
  subst hq
  rw [shiftUp, if_pos h]
  simp only [Nat.add_sub_cancel]
  cases ltU d[q + 1]! d[q]! <;> simp
theorem shiftUp_stop (b j : Nat) (h : b ≤ j) (d : Array UInt64) : shiftUp ltU b j d = d := by
  rw [shiftUp, if_neg (by omega)]
/-- One step. -/
theorem pins_unf (a b s i : Nat) (d : Array UInt64) {I Q : Nat} (hI : scanSorted ltU d b i = I) (hQ : Q + 1 = I) : partialIns ltU a b (s + 1) i d =
    if I = b then (d, true) else if b - a < 50 then (d, false) else
      partialIns ltU a b s I (if b - I ≥ 2 then shiftUp ltU b (I + 1) (if I - a ≥ 2 then shiftDown ltU Q (swp d I Q) else swp d I Q) else (if I - a ≥ 2 then shiftDown ltU Q (swp d I Q) else swp d I Q)) := by
  rw [partialIns]
  simp only [hI, show I - 1 = Q by omega]
set_option maxRecDepth 100000 in
set_option maxHeartbeats 4000000 in
theorem pinsV_any {B : Nat} {w : World} (g n cap a b : Nat) (d0 : Array UInt64) (h : RA w B g n cap d0) (hab : a < b) (hbn : b ≤ n) (hbig : n ≤ 4611686018427387903) :
    Calls Tryd.prog 45 #[.slice (some ⟨g, 0, none⟩) n cap, .int .i64 (a : Int), .int .i64 (b : Int)] w fun e w' =>
      e = .returned (.bool (partialInsertionSort ltU d0 a b).2) ∧ RA w' B g n cap (partialInsertionSort ltU d0 a b).1 ∧ Fr [g] w w' := by
  obtain ⟨D, hD⟩ : ∃ D, partialInsertionSort ltU d0 a b = D := ⟨_, rfl⟩
  rw [hD]
  obtain ⟨I0, hI0⟩ : ∃ I0, I0 = a + 1 := ⟨_, rfl⟩
  have HD : Hid (partialIns ltU a b 5 I0 d0 = D) := hid (by rw [hI0]; exact hD)
  have HR := hid h
  have HF : Hid (Fr [g] w w) := hid (Fr.refl _ _)
  obtain ⟨hcap1, hcap2⟩ := h.bound
  clear h hD
  have hwa : IntKind.i64.wrap ((a : Int) + 1) = (I0 : Int) := i64v _ (by omega) (by omega)
  have hwba : IntKind.i64.wrap ((b : Int) - (a : Int)) = ((b - a : Nat) : Int) := i64v _ (by omega) (by omega)
  have hI0a : a + 1 ≤ I0 := by omega
  have hI0b : I0 ≤ b := by omega
  clear hI0
  go_enter Tryd.func45, Tryd.ntmps45
  go_wp2_with fail
  go_loopw [7, 8] (fun iv sv wr => ∃ (i s t : Nat) (e : Array UInt64), a + 1 ≤ i ∧ i ≤ b ∧ s + t = 5 ∧ iv = .int .i64 (i : Int) ∧ sv = .int .i64 (t : Int) ∧ Hid (RA wr B g n cap e) ∧ Hid (partialIns ltU a b s i e = D) ∧ Hid (Fr [g] w wr)) (fun _ sv _ => 5 - (intOf sv).toNat)
  case atStart => exact ⟨I0, 5, 0, d0, hI0a, hI0b, by omega, by first | rfl | go_num, by first | rfl | go_num, HR, HD, HF⟩
  case round =>
    clear HR HF HD hwa
    obtain ⟨i0, s, t, d, hi0a, hi0b, hst, rfl, rfl, HR, HL, HF⟩ := hrel
    rcases Nat.eq_zero_or_pos s with rfl | hs
    · have hcmp : (t < 5) = False := by simp; omega
      have HPP : Hid (D = (d, false)) := hid HL.out.symm
      clear HL
      go_wp2
      go_returns
      exact ⟨by rw [HPP.out]; rfl, by rw [HPP.out]; exact HR.out, HF.out⟩
    · obtain ⟨s, rfl⟩ : ∃ k, s = k + 1 := ⟨s - 1, by omega⟩
      have hcmp : t < 5 := by omega
      have hwt : IntKind.i64.wrap ((t : Int) + 1) = ((t + 1 : Nat) : Int) := i64v _ (by omega) (by omega)
      go_upto_block 2 with fail
      go_cut [7] from 13 to 132 (fun iv wx => ∃ i : Nat, a + 1 ≤ i ∧ i ≤ b ∧ iv = .int .i64 (i : Int) ∧ Hid (RA wx B g n cap d) ∧ Hid (scanSorted ltU d b i0 = i) ∧ Hid (Fr [g] w wx))
      case first =>
        go_wp2_with fail
        go_loopw [7] (fun iv wr => ∃ i : Nat, a + 1 ≤ i ∧ i ≤ b ∧ iv = .int .i64 (i : Int) ∧ Hid (RA wr B g n cap d) ∧ Hid (scanSorted ltU d b i = scanSorted ltU d b i0) ∧ Hid (Fr [g] w wr)) (fun iv _ => n + 1 - (intOf iv).toNat)
        case atStart => exact ⟨i0, hi0a, hi0b, by first | rfl | go_num, HR, hid rfl, HF⟩
        case round =>
          clear HR HF
          obtain ⟨i, hi1, hi2, rfl, HR, HO, HF⟩ := hrel
          rcases Nat.lt_or_ge i b with hib | hib
          · obtain ⟨q, hq⟩ : ∃ q, q + 1 = i := ⟨i - 1, by omega⟩
            have hwi : IntKind.i64.wrap ((i : Int) + 1) = ((i + 1 : Nat) : Int) := i64v _ (by omega) (by omega)
            have hwq : IntKind.i64.wrap ((i : Int) - 1) = (q : Int) := i64v _ (by omega) (by omega)
            have hin : i < n := by omega
            have hin2 : (i : Int) < n := by omega
            have hqn : q < n := by omega
            have hqn2 : (q : Int) < n := by omega
            obtain ⟨zi, Hzi, HCzi⟩ := cellV (B := B) (g := g) (n := n) (cap := cap) d i (by omega)
            obtain ⟨zq, Hzq, HCzq⟩ := cellV (B := B) (g := g) (n := n) (cap := cap) d q (by omega)
            obtain ⟨b0, Hb0⟩ : ∃ b, Hid (ltU zi zq = b) := ⟨_, hid rfl⟩
            have HIN : Hid (scanSorted ltU d b i = if b0 then i else scanSorted ltU d b (i + 1)) := hid (by rw [scanSorted_go d b i q hq hib, Hzi.out, Hzq.out, Hb0.out])
            clear hq
            go_wp2_with fail
            refine Par.wp_region_par (l := [_, _, _, _, _, _, _, _, _, _, _, _, _, _, _, _]) rfl Ext (Par.VL [Par.EQ (Value.int IntKind.i64 (i : Int)), Par.EQ (Value.int IntKind.i64 (b : Int)), Par.EQ (Value.bool true), Par.EQ (Value.bool true), Par.EQ (Value.slice (some ⟨g, 0, none⟩) n cap), Par.EQ (Value.int IntKind.i64 (i : Int)), Par.EQ (Value.pointer (some ⟨g, i, none⟩)), Par.EQ (uv zi), Par.EQ (Value.slice (some ⟨g, 0, none⟩) n cap), Par.EQ (Value.int IntKind.i64 (i : Int)), Par.EQ (Value.int IntKind.i64 (q : Int)), Par.EQ (Value.pointer (some ⟨g, q, none⟩)), Par.EQ (uv zq), Par.EQ (Value.bool b0), Par.EQ (Value.bool (!b0)), Par.EQ (Value.bool (!b0))]) (by kernel_rfl) Ext.refl (fun _ _ _ h1 h2 => Ext.trans h1 h2) (Ext.draw _) (Par.VL_stab ?_) ?_ ?_
            · simp only [List.forall_mem_cons, List.not_mem_nil, false_implies, implies_true, and_true]
              refine ⟨fun _ _ _ _ h => h, fun _ _ _ _ h => h, fun _ _ _ _ h => h, fun _ _ _ _ h => h, fun _ _ _ _ h => h, fun _ _ _ _ h => h, fun _ _ _ _ h => h, fun _ _ _ _ h => h, fun _ _ _ _ h => h, fun _ _ _ _ h => h, fun _ _ _ _ h => h, fun _ _ _ _ h => h, fun _ _ _ _ h => h, fun _ _ _ _ h => h, fun _ _ _ _ h => h, fun _ _ _ _ h => h⟩
            · refine ⟨⟨fun _ _ => trivial, fun ρ w' hX hG hk => ?_⟩, ?_⟩
              · exact Par.val_of_run rfl ⟨Ext.refl _, hk.1⟩
              refine ⟨⟨fun _ _ => trivial, fun ρ w' hX hG hk => ?_⟩, ?_⟩
              · exact Par.val_of_run rfl ⟨Ext.refl _, hk.1⟩
              refine ⟨⟨fun _ _ => trivial, fun ρ w' hX hG hk => ?_⟩, ?_⟩
              · obtain ⟨k0, k1, -⟩ := hk
                have e0 : ρ (.tmp 17) = Value.int IntKind.i64 (i : Int) := k0
                have e1 : ρ (.tmp 18) = Value.int IntKind.i64 (b : Int) := k1
                clear k0 k1
                refine Par.val_k fun K hK => ?_
                unfold Par.val
                (go_simp; exact hK _ _ ⟨Ext.refl _, rfl⟩)
              refine ⟨⟨fun _ _ => trivial, fun ρ w' hX hG hk => ?_⟩, ?_⟩
              · exact Par.val_of_run rfl ⟨Ext.refl _, hk.1⟩
              refine ⟨⟨fun _ _ u hu => .inl hu, fun ρ w' hX hG hk => ?_⟩, ?_⟩
              · exact Par.val_of_run rfl ⟨Ext.refl _, hk.1⟩
              refine ⟨⟨fun _ _ u hu => .inl hu, fun ρ w' hX hG hk => ?_⟩, ?_⟩
              · exact Par.val_of_run rfl ⟨Ext.refl _, hk.1⟩
              refine ⟨⟨fun _ _ u hu => .inl hu, fun ρ w' hX hG hk => ?_⟩, ?_⟩
              · obtain ⟨k0, k1, -⟩ := hk
                have e0 : ρ (.tmp 21) = Value.slice (some ⟨g, 0, none⟩) n cap := k0
                have e1 : ρ (.tmp 22) = Value.int IntKind.i64 (i : Int) := k1
                clear k0 k1
                refine Par.val_k fun K hK => ?_
                unfold Par.val
                (go_simp; exact hK _ _ ⟨Ext.refl _, rfl⟩)
              refine ⟨⟨fun _ _ u hu => .inl hu, fun ρ w' hX hG hk => ?_⟩, ?_⟩
              · obtain ⟨k0, -⟩ := hk
                have e0 : ρ (.tmp 23) = Value.pointer (some ⟨g, i, none⟩) := k0
                clear k0
                refine Par.val_k fun K hK => ?_
                unfold Par.val
                (have cc := HCzi.out _ (RA.ext hX HR.out); go_simp; exact hK _ _ ⟨Ext.refl _, rfl⟩)
              refine ⟨⟨fun _ _ u hu => .inl hu, fun ρ w' hX hG hk => ?_⟩, ?_⟩
              · exact Par.val_of_run rfl ⟨Ext.refl _, hk.1⟩
              refine ⟨⟨fun _ _ u hu => .inl hu, fun ρ w' hX hG hk => ?_⟩, ?_⟩
              · exact Par.val_of_run rfl ⟨Ext.refl _, hk.1⟩
              refine ⟨⟨fun _ _ u hu => .inl hu, fun ρ w' hX hG hk => ?_⟩, ?_⟩
              · obtain ⟨k0, k1, -⟩ := hk
                have e0 : ρ (.tmp 26) = Value.int IntKind.i64 (i : Int) := k0
                have e1 : ρ (Operand.const (Value.int IntKind.i64 1)) = (Value.int IntKind.i64 1) := k1
                clear k0 k1
                refine Par.val_k fun K hK => ?_
                unfold Par.val
                (go_simp; exact hK _ _ ⟨Ext.refl _, rfl⟩)
              refine ⟨⟨fun _ _ u hu => .inl hu, fun ρ w' hX hG hk => ?_⟩, ?_⟩
              · obtain ⟨k0, k1, -⟩ := hk
                have e0 : ρ (.tmp 25) = Value.slice (some ⟨g, 0, none⟩) n cap := k0
                have e1 : ρ (.tmp 27) = Value.int IntKind.i64 (q : Int) := k1
                clear k0 k1
                refine Par.val_k fun K hK => ?_
                unfold Par.val
                (go_simp; exact hK _ _ ⟨Ext.refl _, rfl⟩)
              refine ⟨⟨fun _ _ u hu => .inl hu, fun ρ w' hX hG hk => ?_⟩, ?_⟩
              · obtain ⟨k0, -⟩ := hk
                have e0 : ρ (.tmp 28) = Value.pointer (some ⟨g, q, none⟩) := k0
                clear k0
                refine Par.val_k fun K hK => ?_
                unfold Par.val
                (have cc := HCzq.out _ (RA.ext hX HR.out); go_simp; exact hK _ _ ⟨Ext.refl _, rfl⟩)
              refine ⟨⟨fun _ _ u hu => .inl hu, fun ρ w' hX hG hk => ?_⟩, ?_⟩
              · obtain ⟨k0, k1, k2, -⟩ := hk
                have e0 := k0
                have e1 : ρ (.tmp 24) = uv zi := k1
                have e2 : ρ (.tmp 29) = uv zq := k2
                clear k0 k1 k2
                refine Par.val_k fun K hK => ?_
                unfold Par.val
                refine Par.val_call Tryd.func46 (by kernel_rfl) rfl e0 ?_
                simp only [List.map_toArray, List.map_cons, List.map_nil, e1, e2]
                refine (lessU_any zi zq _).mono ?_
                rintro e w2 ⟨rfl, rfl⟩
                exact ⟨_, rfl, hK _ _ ⟨Ext.refl _, (congrArg Value.bool Hb0.out)⟩⟩
              refine ⟨⟨fun _ _ u hu => .inl hu, fun ρ w' hX hG hk => ?_⟩, ?_⟩
              · obtain ⟨k0, -⟩ := hk
                have e0 : ρ (.tmp 30) = Value.bool b0 := k0
                clear k0
                refine Par.val_k fun K hK => ?_
                unfold Par.val
                (go_simp; exact hK _ _ ⟨Ext.refl _, rfl⟩)
              refine ⟨⟨fun _ _ => trivial, fun ρ w' hX hG hk => ?_⟩, ?_⟩
              · obtain ⟨k0, k1, k2, -⟩ := hk
                have e0 : ρ (.tmp 20) = Value.bool true := k0
                have e1 : ρ (.tmp 31) = Value.bool (!b0) := k1
                have e2 : ρ (Operand.const (Value.bool false)) = (Value.bool false) := k2
                clear k0 k1 k2
                refine Par.val_k fun K hK => ?_
                unfold Par.val
                (go_simp; exact hK _ _ ⟨Ext.refl _, rfl⟩)
              trivial
            intro a' w' inv
            have hX := inv.ext
            have q17 : a'.tmps.getD 17 undef = Value.int IntKind.i64 (i : Int) := inv.done 0 _ 17 rfl rfl rfl
            have q18 : a'.tmps.getD 18 undef = Value.int IntKind.i64 (b : Int) := inv.done 1 _ 18 rfl rfl rfl
            have q19 : a'.tmps.getD 19 undef = Value.bool true := inv.done 2 _ 19 rfl rfl rfl
            have q20 : a'.tmps.getD 20 undef = Value.bool true := inv.done 3 _ 20 rfl rfl rfl
            have q21 : a'.tmps.getD 21 undef = Value.slice (some ⟨g, 0, none⟩) n cap := inv.done 4 _ 21 rfl rfl rfl
            have q22 : a'.tmps.getD 22 undef = Value.int IntKind.i64 (i : Int) := inv.done 5 _ 22 rfl rfl rfl
            have q23 : a'.tmps.getD 23 undef = Value.pointer (some ⟨g, i, none⟩) := inv.done 6 _ 23 rfl rfl rfl
            have q24 : a'.tmps.getD 24 undef = uv zi := inv.done 7 _ 24 rfl rfl rfl
            have q25 : a'.tmps.getD 25 undef = Value.slice (some ⟨g, 0, none⟩) n cap := inv.done 8 _ 25 rfl rfl rfl
            have q26 : a'.tmps.getD 26 undef = Value.int IntKind.i64 (i : Int) := inv.done 9 _ 26 rfl rfl rfl
            have q27 : a'.tmps.getD 27 undef = Value.int IntKind.i64 (q : Int) := inv.done 10 _ 27 rfl rfl rfl
            have q28 : a'.tmps.getD 28 undef = Value.pointer (some ⟨g, q, none⟩) := inv.done 11 _ 28 rfl rfl rfl
            have q29 : a'.tmps.getD 29 undef = uv zq := inv.done 12 _ 29 rfl rfl rfl
            have q30 : a'.tmps.getD 30 undef = Value.bool b0 := inv.done 13 _ 30 rfl rfl rfl
            have q31 : a'.tmps.getD 31 undef = Value.bool (!b0) := inv.done 14 _ 31 rfl rfl rfl
            have q32 : a'.tmps.getD 32 undef = Value.bool (!b0) := inv.done 15 _ 32 rfl rfl rfl
            clear inv
            simp only [List.filterMap_cons, List.filterMap_nil, Par.putAll, Act.put, List.setIfInBounds_toArray, List.set_cons_succ, List.set_cons_zero, q17, q18, q19, q20, q21, q22, q23, q24, q25, q26, q27, q28, q29, q30, q31, q32]
            clear q17 q18 q19 q20 q21 q22 q23 q24 q25 q26 q27 q28 q29 q30 q31 q32
            clear a'
            have HF2 := hid (HF.out.trans (Ext.fr hX))
            have HR2 := hid (RA.ext hX HR.out)
            clear hX HF HR
            have HF := HF2
            have HR := HR2
            clear HF2 HR2
            cases b0
            case true =>
              have HO2 : Hid (scanSorted ltU d b i0 = i) := hid (by have := HO.out; rw [HIN.out] at this; simpa using this.symm)
              go_wp2
              go_meet
              case rel => exact ⟨i, hi1, hi2, rfl, HR, HO2, HF⟩
            case false =>
              have HO2 : Hid (scanSorted ltU d b (i + 1) = scanSorted ltU d b i0) := hid (by have := HO.out; rw [HIN.out] at this; simpa using this)
              go_wp2
              go_roundw
              case rel => exact ⟨i + 1, by omega, by omega, by first | rfl | go_num, HR, HO2, HF⟩
              case measure => simp [intOf] <;> omega
          · have hcm : (i < b) = False := by simp; omega
            go_wp2_with fail
            refine Par.wp_region_par (l := [_, _, _, _, _, _, _, _, _, _, _, _, _, _, _, _]) rfl Ext (Par.VL [Par.EQ (Value.int IntKind.i64 (i : Int)), Par.EQ (Value.int IntKind.i64 (b : Int)), Par.EQ (Value.bool false), Par.EQ (Value.bool false), Par.EQ (undef), Par.EQ (undef), Par.EQ (undef), Par.EQ (undef), Par.EQ (undef), Par.EQ (undef), Par.EQ (undef), Par.EQ (undef), Par.EQ (undef), Par.EQ (undef), Par.EQ (undef), Par.EQ (Value.bool false)]) (by kernel_rfl) Ext.refl (fun _ _ _ h1 h2 => Ext.trans h1 h2) (Ext.draw _) (Par.VL_stab ?_) ?_ ?_
            · simp only [List.forall_mem_cons, List.not_mem_nil, false_implies, implies_true, and_true]
              refine ⟨fun _ _ _ _ h => h, fun _ _ _ _ h => h, fun _ _ _ _ h => h, fun _ _ _ _ h => h, fun _ _ _ _ h => h, fun _ _ _ _ h => h, fun _ _ _ _ h => h, fun _ _ _ _ h => h, fun _ _ _ _ h => h, fun _ _ _ _ h => h, fun _ _ _ _ h => h, fun _ _ _ _ h => h, fun _ _ _ _ h => h, fun _ _ _ _ h => h, fun _ _ _ _ h => h, fun _ _ _ _ h => h⟩
            · refine ⟨⟨fun _ _ => trivial, fun ρ w' hX hG hk => ?_⟩, ?_⟩
              · exact Par.val_of_run rfl ⟨Ext.refl _, hk.1⟩
              refine ⟨⟨fun _ _ => trivial, fun ρ w' hX hG hk => ?_⟩, ?_⟩
              · exact Par.val_of_run rfl ⟨Ext.refl _, hk.1⟩
              refine ⟨⟨fun _ _ => trivial, fun ρ w' hX hG hk => ?_⟩, ?_⟩
              · obtain ⟨k0, k1, -⟩ := hk
                have e0 : ρ (.tmp 17) = Value.int IntKind.i64 (i : Int) := k0
                have e1 : ρ (.tmp 18) = Value.int IntKind.i64 (b : Int) := k1
                clear k0 k1
                refine Par.val_k fun K hK => ?_
                unfold Par.val
                (go_simp; exact hK _ _ ⟨Ext.refl _, rfl⟩)
              refine ⟨⟨fun _ _ => trivial, fun ρ w' hX hG hk => ?_⟩, ?_⟩
              · exact Par.val_of_run rfl ⟨Ext.refl _, hk.1⟩
              refine ⟨⟨fun _ _ u hu => .inr rfl, fun ρ w' hX hG hk => ?_⟩, ?_⟩
              · cases hG
              refine ⟨⟨fun _ _ u hu => .inr rfl, fun ρ w' hX hG hk => ?_⟩, ?_⟩
              · cases hG
              refine ⟨⟨fun _ _ u hu => .inr rfl, fun ρ w' hX hG hk => ?_⟩, ?_⟩
              · cases hG
              refine ⟨⟨fun _ _ u hu => .inr rfl, fun ρ w' hX hG hk => ?_⟩, ?_⟩
              · cases hG
              refine ⟨⟨fun _ _ u hu => .inr rfl, fun ρ w' hX hG hk => ?_⟩, ?_⟩
              · cases hG
              refine ⟨⟨fun _ _ u hu => .inr rfl, fun ρ w' hX hG hk => ?_⟩, ?_⟩
              · cases hG
              refine ⟨⟨fun _ _ u hu => .inr rfl, fun ρ w' hX hG hk => ?_⟩, ?_⟩
              · cases hG
              refine ⟨⟨fun _ _ u hu => .inr rfl, fun ρ w' hX hG hk => ?_⟩, ?_⟩
              · cases hG
              refine ⟨⟨fun _ _ u hu => .inr rfl, fun ρ w' hX hG hk => ?_⟩, ?_⟩
              · cases hG
              refine ⟨⟨fun _ _ u hu => .inr rfl, fun ρ w' hX hG hk => ?_⟩, ?_⟩
              · cases hG
              refine ⟨⟨fun _ _ u hu => .inr rfl, fun ρ w' hX hG hk => ?_⟩, ?_⟩
              · cases hG
              refine ⟨⟨fun _ _ => trivial, fun ρ w' hX hG hk => ?_⟩, ?_⟩
              · obtain ⟨k0, k1, k2, -⟩ := hk
                have e0 : ρ (.tmp 20) = Value.bool false := k0
                have e1 : ρ (.tmp 31) = undef := k1
                have e2 : ρ (Operand.const (Value.bool false)) = (Value.bool false) := k2
                clear k0 k1 k2
                refine Par.val_k fun K hK => ?_
                unfold Par.val
                (go_simp; exact hK _ _ ⟨Ext.refl _, rfl⟩)
              trivial
            intro a' w' inv
            have hX := inv.ext
            have q17 : a'.tmps.getD 17 undef = Value.int IntKind.i64 (i : Int) := inv.done 0 _ 17 rfl rfl rfl
            have q18 : a'.tmps.getD 18 undef = Value.int IntKind.i64 (b : Int) := inv.done 1 _ 18 rfl rfl rfl
            have q19 : a'.tmps.getD 19 undef = Value.bool false := inv.done 2 _ 19 rfl rfl rfl
            have q20 : a'.tmps.getD 20 undef = Value.bool false := inv.done 3 _ 20 rfl rfl rfl
            have q21 : a'.tmps.getD 21 undef = undef := inv.done 4 _ 21 rfl rfl rfl
            have q22 : a'.tmps.getD 22 undef = undef := inv.done 5 _ 22 rfl rfl rfl
            have q23 : a'.tmps.getD 23 undef = undef := inv.done 6 _ 23 rfl rfl rfl
            have q24 : a'.tmps.getD 24 undef = undef := inv.done 7 _ 24 rfl rfl rfl
            have q25 : a'.tmps.getD 25 undef = undef := inv.done 8 _ 25 rfl rfl rfl
            have q26 : a'.tmps.getD 26 undef = undef := inv.done 9 _ 26 rfl rfl rfl
            have q27 : a'.tmps.getD 27 undef = undef := inv.done 10 _ 27 rfl rfl rfl
            have q28 : a'.tmps.getD 28 undef = undef := inv.done 11 _ 28 rfl rfl rfl
            have q29 : a'.tmps.getD 29 undef = undef := inv.done 12 _ 29 rfl rfl rfl
            have q30 : a'.tmps.getD 30 undef = undef := inv.done 13 _ 30 rfl rfl rfl
            have q31 : a'.tmps.getD 31 undef = undef := inv.done 14 _ 31 rfl rfl rfl
            have q32 : a'.tmps.getD 32 undef = Value.bool false := inv.done 15 _ 32 rfl rfl rfl
            clear inv
            simp only [List.filterMap_cons, List.filterMap_nil, Par.putAll, Act.put, List.setIfInBounds_toArray, List.set_cons_succ, List.set_cons_zero, q17, q18, q19, q20, q21, q22, q23, q24, q25, q26, q27, q28, q29, q30, q31, q32]
            clear q17 q18 q19 q20 q21 q22 q23 q24 q25 q26 q27 q28 q29 q30 q31 q32
            clear a'
            have HF2 := hid (HF.out.trans (Ext.fr hX))
            have HR2 := hid (RA.ext hX HR.out)
            clear hX HF HR
            have HF := HF2
            have HR := HR2
            clear HF2 HR2
            have HO2 := hid (HO.out.symm.trans (scanSorted_stop d b i hib))
            clear hcm
            go_wp2
            go_meet
            case rel => exact ⟨i, hi1, hi2, rfl, HR, HO2, HF⟩
      case rest =>
        clear HR HF
        obtain ⟨I, hI1, hI2, rfl, HR, HI, HF⟩ := hcut
        obtain ⟨Q, hQ⟩ : ∃ Q, Q + 1 = I := ⟨I - 1, by omega⟩
        have HEQ := hid (pins_unf a b s i0 d HI.out hQ)
        have HQ := hid hQ
        clear HI hQ
        rcases Nat.lt_or_ge I b with hIb | hIb
        · have hne : (I = b) = False := by simp; omega
          have hneb : ((I : Int) == (b : Int)) = false := by simp; omega
          rcases Nat.lt_or_ge (b - a) 50 with h50 | h50
          · have HPP : Hid (D = (d, false)) := hid (by rw [← HL.out, HEQ.out, if_neg (by omega), if_pos h50])
            have hba : ((b - a : Nat) : Int) < 50 := by omega
            go_wp2
            go_returns
            exact ⟨by rw [HPP.out]; rfl, by rw [HPP.out]; exact HR.out, HF.out⟩
          · have hba2 : (b - a < 50) = False := by simp; omega
            have hIn : I < n := by omega
            have hIn2 : (I : Int) < n := by omega
            have hQn : Q < n := by have := HQ.out; omega
            have hQn2 : (Q : Int) < n := by omega
            have hQb : Q < b := by have := HQ.out; omega
            have hwQ : IntKind.i64.wrap ((I : Int) - 1) = (Q : Int) := i64v _ (by have := HQ.out; omega) (by omega)
            have hwI : IntKind.i64.wrap ((I : Int) + 1) = ((I + 1 : Nat) : Int) := i64v _ (by omega) (by omega)
            have hwIa : IntKind.i64.wrap ((I : Int) - (a : Int)) = ((I - a : Nat) : Int) := i64v _ (by omega) (by omega)
            have hwbI : IntKind.i64.wrap ((b : Int) - (I : Int)) = ((b - I : Nat) : Int) := i64v _ (by omega) (by omega)
            obtain ⟨zI, HzI, HCzI⟩ := cellV (B := B) (g := g) (n := n) (cap := cap) d I (by omega)
            obtain ⟨zQ, HzQ, HCzQ⟩ := cellV (B := B) (g := g) (n := n) (cap := cap) d Q (by omega)
            have HPL : Hid (D = partialIns ltU a b s I (if b - I ≥ 2 then shiftUp ltU b (I + 1) (if I - a ≥ 2 then shiftDown ltU Q (swp d I Q) else swp d I Q) else (if I - a ≥ 2 then shiftDown ltU Q (swp d I Q) else swp d I Q))) := hid (by rw [← HL.out, HEQ.out, if_neg (by omega), if_neg (by omega)])
            clear HL HEQ
            go_wp2_with fail
            refine ParE.wp_region_e (l := [_, _, _, _, _, _, _, _, _, _, _, _, _, _, _, _, _, _]) rfl (Rg.Ch [15, 17] [] (SwV _ B g n cap I Q zI zQ d)) (ParC.VC [ParC.EQ (Value.slice (some ⟨g, 0, none⟩) n cap), ParC.EQ (Value.int IntKind.i64 (I : Int)), ParC.EQ (Value.slice (some ⟨g, 0, none⟩) n cap), ParC.EQ (Value.int IntKind.i64 (I : Int)), ParC.EQ (Value.int IntKind.i64 (Q : Int)), ParC.EQ (Value.slice (some ⟨g, 0, none⟩) n cap), ParC.EQ (Value.int IntKind.i64 (I : Int)), ParC.EQ (Value.int IntKind.i64 (Q : Int)), ParC.EQ (Value.pointer (some ⟨g, Q, none⟩)), ParC.EQ (uv zQ), ParC.EQ (Value.slice (some ⟨g, 0, none⟩) n cap), ParC.EQ (Value.int IntKind.i64 (I : Int)), ParC.EQ (Value.pointer (some ⟨g, I, none⟩)), ParC.EQ (uv zI), ParC.EQ (Value.pointer (some ⟨g, I, none⟩)), fun _ => True, ParC.EQ (Value.pointer (some ⟨g, Q, none⟩)), fun _ => True]) (by kernel_rfl) (by kernel_rfl) (Rg.Ch.start ⟨fun _ => Ext.draw _, trivial⟩) ?_ ?_
            · refine ⟨fun L ρ w' hR hC hL hd hk => ?_, ?_⟩
              · exact Par.val_of_run rfl ⟨hR.other (by decide), hk.1⟩
              refine ⟨fun L ρ w' hR hC hL hd hk => ?_, ?_⟩
              · exact Par.val_of_run rfl ⟨hR.other (by decide), hk.1⟩
              refine ⟨fun L ρ w' hR hC hL hd hk => ?_, ?_⟩
              · exact Par.val_of_run rfl ⟨hR.other (by decide), hk.1⟩
              refine ⟨fun L ρ w' hR hC hL hd hk => ?_, ?_⟩
              · exact Par.val_of_run rfl ⟨hR.other (by decide), hk.1⟩
              refine ⟨fun L ρ w' hR hC hL hd hk => ?_, ?_⟩
              · obtain ⟨k0, k1, -⟩ := hk
                have e0 : ρ (.tmp 45) = Value.int IntKind.i64 (I : Int) := k0
                have e1 : ρ (Operand.const (Value.int IntKind.i64 1)) = (Value.int IntKind.i64 1) := k1
                clear k0 k1
                refine Par.val_k fun K hK => ?_
                unfold Par.val
                (go_simp; exact hK _ _ ⟨hR.other (by decide), rfl⟩)
              refine ⟨fun L ρ w' hR hC hL hd hk => ?_, ?_⟩
              · exact Par.val_of_run rfl ⟨hR.other (by decide), hk.1⟩
              refine ⟨fun L ρ w' hR hC hL hd hk => ?_, ?_⟩
              · exact Par.val_of_run rfl ⟨hR.other (by decide), hk.1⟩
              refine ⟨fun L ρ w' hR hC hL hd hk => ?_, ?_⟩
              · obtain ⟨k0, k1, -⟩ := hk
                have e0 : ρ (.tmp 48) = Value.int IntKind.i64 (I : Int) := k0
                have e1 : ρ (Operand.const (Value.int IntKind.i64 1)) = (Value.int IntKind.i64 1) := k1
                clear k0 k1
                refine Par.val_k fun K hK => ?_
                unfold Par.val
                (go_simp; exact hK _ _ ⟨hR.other (by decide), rfl⟩)
              refine ⟨fun L ρ w' hR hC hL hd hk => ?_, ?_⟩
              · obtain ⟨k0, k1, -⟩ := hk
                have e0 : ρ (.tmp 47) = Value.slice (some ⟨g, 0, none⟩) n cap := k0
                have e1 : ρ (.tmp 49) = Value.int IntKind.i64 (Q : Int) := k1
                clear k0 k1
                refine Par.val_k fun K hK => ?_
                unfold Par.val
                (go_simp; exact hK _ _ ⟨hR.other (by decide), rfl⟩)
              refine ⟨fun L ρ w' hR hC hL hd hk => ?_, ?_⟩
              · obtain ⟨k0, -⟩ := hk
                have e0 : ρ (.tmp 50) = Value.pointer (some ⟨g, Q, none⟩) := k0
                clear k0
                refine Par.val_k fun K hK => ?_
                unfold Par.val
                (obtain ⟨ii, hii, hq⟩ := hR.some 0 rfl (hC.notyet 15 9 hL (by kernel_rfl)); have cc := HCzQ.out _ (RA.ext (hq.1 (by omega)) HR.out); go_simp; exact hK _ _ ⟨hR.other (by decide), rfl⟩)
              refine ⟨fun L ρ w' hR hC hL hd hk => ?_, ?_⟩
              · exact Par.val_of_run rfl ⟨hR.other (by decide), hk.1⟩
              refine ⟨fun L ρ w' hR hC hL hd hk => ?_, ?_⟩
              · exact Par.val_of_run rfl ⟨hR.other (by decide), hk.1⟩
              refine ⟨fun L ρ w' hR hC hL hd hk => ?_, ?_⟩
              · obtain ⟨k0, k1, -⟩ := hk
                have e0 : ρ (.tmp 52) = Value.slice (some ⟨g, 0, none⟩) n cap := k0
                have e1 : ρ (.tmp 53) = Value.int IntKind.i64 (I : Int) := k1
                clear k0 k1
                refine Par.val_k fun K hK => ?_
                unfold Par.val
                (go_simp; exact hK _ _ ⟨hR.other (by decide), rfl⟩)
              refine ⟨fun L ρ w' hR hC hL hd hk => ?_, ?_⟩
              · obtain ⟨k0, -⟩ := hk
                have e0 : ρ (.tmp 54) = Value.pointer (some ⟨g, I, none⟩) := k0
                clear k0
                refine Par.val_k fun K hK => ?_
                unfold Par.val
                (obtain ⟨ii, hii, hq⟩ := hR.some 0 rfl (hC.notyet 15 13 hL (by kernel_rfl)); have cc := HCzI.out _ (RA.ext (hq.1 (by omega)) HR.out); go_simp; exact hK _ _ ⟨hR.other (by decide), rfl⟩)
              refine ⟨fun L ρ w' hR hC hL hd hk => ?_, ?_⟩
              · obtain ⟨k0, k1, -⟩ := hk
                have e0 : ρ (.tmp 42) = Value.slice (some ⟨g, 0, none⟩) n cap := k0
                have e1 : ρ (.tmp 43) = Value.int IntKind.i64 (I : Int) := k1
                clear k0 k1
                refine Par.val_k fun K hK => ?_
                unfold Par.val
                (go_simp; exact hK _ _ ⟨hR.other (by decide), rfl⟩)
              refine ⟨fun L ρ w' hR hC hL hd hk => ?_, ?_⟩
              · obtain ⟨k0, k1, -⟩ := hk
                have e0 : ρ (.tmp 56) = Value.pointer (some ⟨g, I, none⟩) := k0
                have e1 : ρ (.tmp 51) = uv zQ := k1
                clear k0 k1
                refine Par.val_k fun K hK => ?_
                unfold Par.val
                (obtain ⟨hq, hs⟩ := hR.go 0 rfl hL (.inl rfl) (by decide); have hx := hq.1 (by decide); have hrow := RA.ext hx HR.out; obtain ⟨cc, ff⟩ := hrow.at (j := I) (by omega); obtain ⟨hset, hfs⟩ := hrow.set I zQ; have HSET := hid hset; have HFS := hid hfs; clear hset hfs hrow; go_simp; exact hK _ _ ⟨hs none _ _ ⟨fun h => absurd h (by decide), HSET.out, (Ext.fr hx).trans HFS.out⟩, trivial⟩)
              refine ⟨fun L ρ w' hR hC hL hd hk => ?_, ?_⟩
              · obtain ⟨k0, k1, -⟩ := hk
                have e0 : ρ (.tmp 44) = Value.slice (some ⟨g, 0, none⟩) n cap := k0
                have e1 : ρ (.tmp 46) = Value.int IntKind.i64 (Q : Int) := k1
                clear k0 k1
                refine Par.val_k fun K hK => ?_
                unfold Par.val
                (go_simp; exact hK _ _ ⟨hR.other (by decide), rfl⟩)
              refine ⟨fun L ρ w' hR hC hL hd hk => ?_, ?_⟩
              · obtain ⟨k0, k1, -⟩ := hk
                have e0 : ρ (.tmp 57) = Value.pointer (some ⟨g, Q, none⟩) := k0
                have e1 : ρ (.tmp 55) = uv zI := k1
                clear k0 k1
                refine Par.val_k fun K hK => ?_
                unfold Par.val
                (obtain ⟨hq, hs⟩ := hR.go 1 rfl hL (.inr ⟨15, rfl, hC.before 15 (i := 17) rfl hd (by kernel_rfl)⟩) (by decide); obtain ⟨hrow, hfr⟩ := hq.2; obtain ⟨cc, ff⟩ := hrow.at (j := Q) (by omega); obtain ⟨hset, hfs⟩ := hrow.set Q zI; have HSET := hid hset; have HFS := hid hfs; have HFR := hid hfr; clear hset hfs hrow hfr; go_simp; exact hK _ _ ⟨hs none _ _ ⟨fun h => absurd h (by decide), HSET.out, HFR.out.trans HFS.out⟩, trivial⟩)
              trivial
            intro a' w' inv hR
            have q42 : a'.tmps.getD 42 undef = Value.slice (some ⟨g, 0, none⟩) n cap := inv.done 0 _ 42 rfl rfl rfl
            have q43 : a'.tmps.getD 43 undef = Value.int IntKind.i64 (I : Int) := inv.done 1 _ 43 rfl rfl rfl
            have q44 : a'.tmps.getD 44 undef = Value.slice (some ⟨g, 0, none⟩) n cap := inv.done 2 _ 44 rfl rfl rfl
            have q45 : a'.tmps.getD 45 undef = Value.int IntKind.i64 (I : Int) := inv.done 3 _ 45 rfl rfl rfl
            have q46 : a'.tmps.getD 46 undef = Value.int IntKind.i64 (Q : Int) := inv.done 4 _ 46 rfl rfl rfl
            have q47 : a'.tmps.getD 47 undef = Value.slice (some ⟨g, 0, none⟩) n cap := inv.done 5 _ 47 rfl rfl rfl
            have q48 : a'.tmps.getD 48 undef = Value.int IntKind.i64 (I : Int) := inv.done 6 _ 48 rfl rfl rfl
            have q49 : a'.tmps.getD 49 undef = Value.int IntKind.i64 (Q : Int) := inv.done 7 _ 49 rfl rfl rfl
            have q50 : a'.tmps.getD 50 undef = Value.pointer (some ⟨g, Q, none⟩) := inv.done 8 _ 50 rfl rfl rfl
            have q51 : a'.tmps.getD 51 undef = uv zQ := inv.done 9 _ 51 rfl rfl rfl
            have q52 : a'.tmps.getD 52 undef = Value.slice (some ⟨g, 0, none⟩) n cap := inv.done 10 _ 52 rfl rfl rfl
            have q53 : a'.tmps.getD 53 undef = Value.int IntKind.i64 (I : Int) := inv.done 11 _ 53 rfl rfl rfl
            have q54 : a'.tmps.getD 54 undef = Value.pointer (some ⟨g, I, none⟩) := inv.done 12 _ 54 rfl rfl rfl
            have q55 : a'.tmps.getD 55 undef = uv zI := inv.done 13 _ 55 rfl rfl rfl
            have q56 : a'.tmps.getD 56 undef = Value.pointer (some ⟨g, I, none⟩) := inv.done 14 _ 56 rfl rfl rfl
            have q57 : a'.tmps.getD 57 undef = Value.pointer (some ⟨g, Q, none⟩) := inv.done 16 _ 57 rfl rfl rfl
            clear inv
            simp only [List.filterMap_cons, List.filterMap_nil, Par.putAll, Act.put, List.setIfInBounds_toArray, List.set_cons_succ, List.set_cons_zero, q42, q43, q44, q45, q46, q47, q48, q49, q50, q51, q52, q53, q54, q55, q56, q57]
            clear q42 q43 q44 q45 q46 q47 q48 q49 q50 q51 q52 q53 q54 q55 q56 q57
            obtain ⟨-, hrd, hf⟩ := Rg.Ch.fin hR (by decide) 2 rfl; have HRD := hid hrd; have HF4 := hid hf; clear hrd hf hR
            try clear a'
            have HR3 := hid (RA.swp HzI HzQ HRD.out)
            have HF3 := hid (HF.out.trans HF4.out)
            clear HRD HF4 HR HF
            have HR := HR3
            have HF := HF3
            clear HR3 HF3
            obtain ⟨d1, he⟩ : ∃ e, e = swp d I Q := ⟨_, rfl⟩
            rw [← he] at HR HPL
            clear he HzI HzQ HCzI HCzQ
            go_upto_if 61 with fail
            go_cut [9] from 13 to 132 (fun _ wx => Hid (RA wx B g n cap (if I - a ≥ 2 then shiftDown ltU Q d1 else d1)) ∧ Hid (Fr [g] w wx))
            case first =>
              rcases Nat.lt_or_ge (I - a) 2 with h2 | h2
              · have hc2 : (2 ≤ I - a) = False := by simp; omega
                have HR2 : Hid (RA _ B g n cap (if I - a ≥ 2 then shiftDown ltU Q d1 else d1)) := hid (by rw [if_neg (by omega)]; exact HR.out)
                go_wp2
                go_meet
                case rel => exact ⟨HR2, HF⟩
              · have hd61 : decide ((2 : Int) ≤ ((I - a : Nat) : Int)) = true := by simp; omega
                rw [hd61]
                have HG : Hid ((if I - a ≥ 2 then shiftDown ltU Q d1 else d1) = shiftDown ltU Q d1) := hid (by rw [if_pos h2])
                obtain ⟨G, hG⟩ : ∃ G, (if I - a ≥ 2 then shiftDown ltU Q d1 else d1) = G := ⟨_, rfl⟩
                rw [hG] at HG
                have HG2 := hid hG
                clear hG
                go_wp2_with fail
                go_loopw [9] (fun jv wr => ∃ (j : Nat) (e : Array UInt64), j < b ∧ jv = .int .i64 (j : Int) ∧ Hid (RA wr B g n cap e) ∧ Hid (shiftDown ltU j e = G) ∧ Hid (Fr [g] w wr)) (fun jv _ => (intOf jv).toNat)
                case atStart => exact ⟨Q, d1, hQb, by first | rfl | go_num, HR, hid HG.out.symm, HF⟩
                case round =>
                  clear HR HF HG
                  obtain ⟨j, d, hjb, rfl, HR, HS, HF⟩ := hrel
                  rcases Nat.eq_zero_or_pos j with rfl | hj0
                  · have HS2 : Hid (d = G) := HS
                    go_wp2
                    go_meet
                    case rel => exact ⟨hid (by have := HR.out; rw [HS2.out] at this; rw [HG2.out]; exact this), HF⟩
                  · obtain ⟨q, hq⟩ : ∃ q, q + 1 = j := ⟨j - 1, by omega⟩
                    have hj1 : 1 ≤ j := by omega
                    have hj1i : (1 : Int) ≤ (j : Int) := by omega
                    have hwq : IntKind.i64.wrap ((j : Int) - 1) = (q : Int) := i64v _ (by omega) (by omega)
                    have hjn : j < n := by omega
                    have hjn2 : (j : Int) < n := by omega
                    have hqn : q < n := by omega
                    have hqn2 : (q : Int) < n := by omega
                    have hqb : q < b := by omega
                    have hqj : q < j := by omega
                    obtain ⟨zj, Hzj, HCzj⟩ := cellV (B := B) (g := g) (n := n) (cap := cap) d j (by omega)
                    obtain ⟨zq, Hzq, HCzq⟩ := cellV (B := B) (g := g) (n := n) (cap := cap) d q (by omega)
                    obtain ⟨b0, Hb0⟩ : ∃ b, Hid (ltU zj zq = b) := ⟨_, hid rfl⟩
                    have HIN : Hid (shiftDown ltU j d = if b0 then shiftDown ltU q (swp d j q) else d) := hid (by rw [shiftDown_go j q hq d, Hzj.out, Hzq.out, Hb0.out])
                    clear hq
                    go_wp2_with fail
                    refine Par.wp_region_par (l := [_, _, _, _, _, _, _, _, _, _, _]) rfl Ext (Par.VL [Par.EQ (Value.slice (some ⟨g, 0, none⟩) n cap), Par.EQ (Value.int IntKind.i64 (j : Int)), Par.EQ (Value.pointer (some ⟨g, j, none⟩)), Par.EQ (uv zj), Par.EQ (Value.slice (some ⟨g, 0, none⟩) n cap), Par.EQ (Value.int IntKind.i64 (j : Int)), Par.EQ (Value.int IntKind.i64 (q : Int)), Par.EQ (Value.pointer (some ⟨g, q, none⟩)), Par.EQ (uv zq), Par.EQ (Value.bool b0), Par.EQ (Value.bool (!b0))]) (by kernel_rfl) Ext.refl (fun _ _ _ h1 h2 => Ext.trans h1 h2) (Ext.draw _) (Par.VL_stab ?_) ?_ ?_
                    · simp only [List.forall_mem_cons, List.not_mem_nil, false_implies, implies_true, and_true]
                      refine ⟨fun _ _ _ _ h => h, fun _ _ _ _ h => h, fun _ _ _ _ h => h, fun _ _ _ _ h => h, fun _ _ _ _ h => h, fun _ _ _ _ h => h, fun _ _ _ _ h => h, fun _ _ _ _ h => h, fun _ _ _ _ h => h, fun _ _ _ _ h => h, fun _ _ _ _ h => h⟩
                    · refine ⟨⟨fun _ _ => trivial, fun ρ w' hX hG hk => ?_⟩, ?_⟩
                      · exact Par.val_of_run rfl ⟨Ext.refl _, hk.1⟩
                      refine ⟨⟨fun _ _ => trivial, fun ρ w' hX hG hk => ?_⟩, ?_⟩
                      · exact Par.val_of_run rfl ⟨Ext.refl _, hk.1⟩
                      refine ⟨⟨fun _ _ => trivial, fun ρ w' hX hG hk => ?_⟩, ?_⟩
                      · obtain ⟨k0, k1, -⟩ := hk
                        have e0 : ρ (.tmp 68) = Value.slice (some ⟨g, 0, none⟩) n cap := k0
                        have e1 : ρ (.tmp 69) = Value.int IntKind.i64 (j : Int) := k1
                        clear k0 k1
                        refine Par.val_k fun K hK => ?_
                        unfold Par.val
                        (go_simp; exact hK _ _ ⟨Ext.refl _, rfl⟩)
                      refine ⟨⟨fun _ _ => trivial, fun ρ w' hX hG hk => ?_⟩, ?_⟩
                      · obtain ⟨k0, -⟩ := hk
                        have e0 : ρ (.tmp 70) = Value.pointer (some ⟨g, j, none⟩) := k0
                        clear k0
                        refine Par.val_k fun K hK => ?_
                        unfold Par.val
                        (have cc := HCzj.out _ (RA.ext hX HR.out); go_simp; exact hK _ _ ⟨Ext.refl _, rfl⟩)
                      refine ⟨⟨fun _ _ => trivial, fun ρ w' hX hG hk => ?_⟩, ?_⟩
                      · exact Par.val_of_run rfl ⟨Ext.refl _, hk.1⟩
                      refine ⟨⟨fun _ _ => trivial, fun ρ w' hX hG hk => ?_⟩, ?_⟩
                      · exact Par.val_of_run rfl ⟨Ext.refl _, hk.1⟩
                      refine ⟨⟨fun _ _ => trivial, fun ρ w' hX hG hk => ?_⟩, ?_⟩
                      · obtain ⟨k0, k1, -⟩ := hk
                        have e0 : ρ (.tmp 73) = Value.int IntKind.i64 (j : Int) := k0
                        have e1 : ρ (Operand.const (Value.int IntKind.i64 1)) = (Value.int IntKind.i64 1) := k1
                        clear k0 k1
                        refine Par.val_k fun K hK => ?_
                        unfold Par.val
                        (go_simp; exact hK _ _ ⟨Ext.refl _, rfl⟩)
                      refine ⟨⟨fun _ _ => trivial, fun ρ w' hX hG hk => ?_⟩, ?_⟩
                      · obtain ⟨k0, k1, -⟩ := hk
                        have e0 : ρ (.tmp 72) = Value.slice (some ⟨g, 0, none⟩) n cap := k0
                        have e1 : ρ (.tmp 74) = Value.int IntKind.i64 (q : Int) := k1
                        clear k0 k1
                        refine Par.val_k fun K hK => ?_
                        unfold Par.val
                        (go_simp; exact hK _ _ ⟨Ext.refl _, rfl⟩)
                      refine ⟨⟨fun _ _ => trivial, fun ρ w' hX hG hk => ?_⟩, ?_⟩
                      · obtain ⟨k0, -⟩ := hk
                        have e0 : ρ (.tmp 75) = Value.pointer (some ⟨g, q, none⟩) := k0
                        clear k0
                        refine Par.val_k fun K hK => ?_
                        unfold Par.val
                        (have cc := HCzq.out _ (RA.ext hX HR.out); go_simp; exact hK _ _ ⟨Ext.refl _, rfl⟩)
                      refine ⟨⟨fun _ _ => trivial, fun ρ w' hX hG hk => ?_⟩, ?_⟩
                      · obtain ⟨k0, k1, k2, -⟩ := hk
                        have e0 := k0
                        have e1 : ρ (.tmp 71) = uv zj := k1
                        have e2 : ρ (.tmp 76) = uv zq := k2
                        clear k0 k1 k2
                        refine Par.val_k fun K hK => ?_
                        unfold Par.val
                        refine Par.val_call Tryd.func46 (by kernel_rfl) rfl e0 ?_
                        simp only [List.map_toArray, List.map_cons, List.map_nil, e1, e2]
                        refine (lessU_any zj zq _).mono ?_
                        rintro e w2 ⟨rfl, rfl⟩
                        exact ⟨_, rfl, hK _ _ ⟨Ext.refl _, (congrArg Value.bool Hb0.out)⟩⟩
                      refine ⟨⟨fun _ _ => trivial, fun ρ w' hX hG hk => ?_⟩, ?_⟩
                      · obtain ⟨k0, -⟩ := hk
                        have e0 : ρ (.tmp 77) = Value.bool b0 := k0
                        clear k0
                        refine Par.val_k fun K hK => ?_
                        unfold Par.val
                        (go_simp; exact hK _ _ ⟨Ext.refl _, rfl⟩)
                      trivial
                    intro a' w' inv
                    have hX := inv.ext
                    have q68 : a'.tmps.getD 68 undef = Value.slice (some ⟨g, 0, none⟩) n cap := inv.done 0 _ 68 rfl rfl rfl
                    have q69 : a'.tmps.getD 69 undef = Value.int IntKind.i64 (j : Int) := inv.done 1 _ 69 rfl rfl rfl
                    have q70 : a'.tmps.getD 70 undef = Value.pointer (some ⟨g, j, none⟩) := inv.done 2 _ 70 rfl rfl rfl
                    have q71 : a'.tmps.getD 71 undef = uv zj := inv.done 3 _ 71 rfl rfl rfl
                    have q72 : a'.tmps.getD 72 undef = Value.slice (some ⟨g, 0, none⟩) n cap := inv.done 4 _ 72 rfl rfl rfl
                    have q73 : a'.tmps.getD 73 undef = Value.int IntKind.i64 (j : Int) := inv.done 5 _ 73 rfl rfl rfl
                    have q74 : a'.tmps.getD 74 undef = Value.int IntKind.i64 (q : Int) := inv.done 6 _ 74 rfl rfl rfl
                    have q75 : a'.tmps.getD 75 undef = Value.pointer (some ⟨g, q, none⟩) := inv.done 7 _ 75 rfl rfl rfl
                    have q76 : a'.tmps.getD 76 undef = uv zq := inv.done 8 _ 76 rfl rfl rfl
                    have q77 : a'.tmps.getD 77 undef = Value.bool b0 := inv.done 9 _ 77 rfl rfl rfl
                    have q78 : a'.tmps.getD 78 undef = Value.bool (!b0) := inv.done 10 _ 78 rfl rfl rfl
                    clear inv
                    simp only [List.filterMap_cons, List.filterMap_nil, Par.putAll, Act.put, List.setIfInBounds_toArray, List.set_cons_succ, List.set_cons_zero, q68, q69, q70, q71, q72, q73, q74, q75, q76, q77, q78]
                    clear q68 q69 q70 q71 q72 q73 q74 q75 q76 q77 q78
                    clear a'
                    have HF2 := hid (HF.out.trans (Ext.fr hX))
                    have HR2 := hid (RA.ext hX HR.out)
                    clear hX HF HR
                    have HF := HF2
                    have HR := HR2
                    clear HF2 HR2
                    cases b0
                    case false =>
                      have HS2 : Hid (d = G) := hid (by have := HS.out; rw [HIN.out] at this; simpa using this)
                      go_wp2
                      go_meet
                      case rel => exact ⟨hid (by have := HR.out; rw [HS2.out] at this; rw [HG2.out]; exact this), HF⟩
                    case true =>
                      have HS2 : Hid (shiftDown ltU q (swp d j q) = G) := hid (by have := HS.out; rw [HIN.out] at this; simpa using this)
                      go_wp2_with fail
                      refine ParE.wp_region_e (l := [_, _, _, _, _, _, _, _, _, _, _, _, _, _, _, _, _, _]) rfl (Rg.Ch [15, 17] [] (SwV _ B g n cap j q zj zq d)) (ParC.VC [ParC.EQ (Value.slice (some ⟨g, 0, none⟩) n cap), ParC.EQ (Value.int IntKind.i64 (j : Int)), ParC.EQ (Value.slice (some ⟨g, 0, none⟩) n cap), ParC.EQ (Value.int IntKind.i64 (j : Int)), ParC.EQ (Value.int IntKind.i64 (q : Int)), ParC.EQ (Value.slice (some ⟨g, 0, none⟩) n cap), ParC.EQ (Value.int IntKind.i64 (j : Int)), ParC.EQ (Value.int IntKind.i64 (q : Int)), ParC.EQ (Value.pointer (some ⟨g, q, none⟩)), ParC.EQ (uv zq), ParC.EQ (Value.slice (some ⟨g, 0, none⟩) n cap), ParC.EQ (Value.int IntKind.i64 (j : Int)), ParC.EQ (Value.pointer (some ⟨g, j, none⟩)), ParC.EQ (uv zj), ParC.EQ (Value.pointer (some ⟨g, j, none⟩)), fun _ => True, ParC.EQ (Value.pointer (some ⟨g, q, none⟩)), fun _ => True]) (by kernel_rfl) (by kernel_rfl) (Rg.Ch.start ⟨fun _ => Ext.draw _, trivial⟩) ?_ ?_
                      · refine ⟨fun L ρ w' hR hC hL hd hk => ?_, ?_⟩
                        · exact Par.val_of_run rfl ⟨hR.other (by decide), hk.1⟩
                        refine ⟨fun L ρ w' hR hC hL hd hk => ?_, ?_⟩
                        · exact Par.val_of_run rfl ⟨hR.other (by decide), hk.1⟩
                        refine ⟨fun L ρ w' hR hC hL hd hk => ?_, ?_⟩
                        · exact Par.val_of_run rfl ⟨hR.other (by decide), hk.1⟩
                        refine ⟨fun L ρ w' hR hC hL hd hk => ?_, ?_⟩
                        · exact Par.val_of_run rfl ⟨hR.other (by decide), hk.1⟩
                        refine ⟨fun L ρ w' hR hC hL hd hk => ?_, ?_⟩
                        · obtain ⟨k0, k1, -⟩ := hk
                          have e0 : ρ (.tmp 82) = Value.int IntKind.i64 (j : Int) := k0
                          have e1 : ρ (Operand.const (Value.int IntKind.i64 1)) = (Value.int IntKind.i64 1) := k1
                          clear k0 k1
                          refine Par.val_k fun K hK => ?_
                          unfold Par.val
                          (go_simp; exact hK _ _ ⟨hR.other (by decide), rfl⟩)
                        refine ⟨fun L ρ w' hR hC hL hd hk => ?_, ?_⟩
                        · exact Par.val_of_run rfl ⟨hR.other (by decide), hk.1⟩
                        refine ⟨fun L ρ w' hR hC hL hd hk => ?_, ?_⟩
                        · exact Par.val_of_run rfl ⟨hR.other (by decide), hk.1⟩
                        refine ⟨fun L ρ w' hR hC hL hd hk => ?_, ?_⟩
                        · obtain ⟨k0, k1, -⟩ := hk
                          have e0 : ρ (.tmp 85) = Value.int IntKind.i64 (j : Int) := k0
                          have e1 : ρ (Operand.const (Value.int IntKind.i64 1)) = (Value.int IntKind.i64 1) := k1
                          clear k0 k1
                          refine Par.val_k fun K hK => ?_
                          unfold Par.val
                          (go_simp; exact hK _ _ ⟨hR.other (by decide), rfl⟩)
                        refine ⟨fun L ρ w' hR hC hL hd hk => ?_, ?_⟩
                        · obtain ⟨k0, k1, -⟩ := hk
                          have e0 : ρ (.tmp 84) = Value.slice (some ⟨g, 0, none⟩) n cap := k0
                          have e1 : ρ (.tmp 86) = Value.int IntKind.i64 (q : Int) := k1
                          clear k0 k1
                          refine Par.val_k fun K hK => ?_
                          unfold Par.val
                          (go_simp; exact hK _ _ ⟨hR.other (by decide), rfl⟩)
                        refine ⟨fun L ρ w' hR hC hL hd hk => ?_, ?_⟩
                        · obtain ⟨k0, -⟩ := hk
                          have e0 : ρ (.tmp 87) = Value.pointer (some ⟨g, q, none⟩) := k0
                          clear k0
                          refine Par.val_k fun K hK => ?_
                          unfold Par.val
                          (obtain ⟨ii, hii, hq⟩ := hR.some 0 rfl (hC.notyet 15 9 hL (by kernel_rfl)); have cc := HCzq.out _ (RA.ext (hq.1 (by omega)) HR.out); go_simp; exact hK _ _ ⟨hR.other (by decide), rfl⟩)
                        refine ⟨fun L ρ w' hR hC hL hd hk => ?_, ?_⟩
                        · exact Par.val_of_run rfl ⟨hR.other (by decide), hk.1⟩
                        refine ⟨fun L ρ w' hR hC hL hd hk => ?_, ?_⟩
                        · exact Par.val_of_run rfl ⟨hR.other (by decide), hk.1⟩
                        refine ⟨fun L ρ w' hR hC hL hd hk => ?_, ?_⟩
                        · obtain ⟨k0, k1, -⟩ := hk
                          have e0 : ρ (.tmp 89) = Value.slice (some ⟨g, 0, none⟩) n cap := k0
                          have e1 : ρ (.tmp 90) = Value.int IntKind.i64 (j : Int) := k1
                          clear k0 k1
                          refine Par.val_k fun K hK => ?_
                          unfold Par.val
                          (go_simp; exact hK _ _ ⟨hR.other (by decide), rfl⟩)
                        refine ⟨fun L ρ w' hR hC hL hd hk => ?_, ?_⟩
                        · obtain ⟨k0, -⟩ := hk
                          have e0 : ρ (.tmp 91) = Value.pointer (some ⟨g, j, none⟩) := k0
                          clear k0
                          refine Par.val_k fun K hK => ?_
                          unfold Par.val
                          (obtain ⟨ii, hii, hq⟩ := hR.some 0 rfl (hC.notyet 15 13 hL (by kernel_rfl)); have cc := HCzj.out _ (RA.ext (hq.1 (by omega)) HR.out); go_simp; exact hK _ _ ⟨hR.other (by decide), rfl⟩)
                        refine ⟨fun L ρ w' hR hC hL hd hk => ?_, ?_⟩
                        · obtain ⟨k0, k1, -⟩ := hk
                          have e0 : ρ (.tmp 79) = Value.slice (some ⟨g, 0, none⟩) n cap := k0
                          have e1 : ρ (.tmp 80) = Value.int IntKind.i64 (j : Int) := k1
                          clear k0 k1
                          refine Par.val_k fun K hK => ?_
                          unfold Par.val
                          (go_simp; exact hK _ _ ⟨hR.other (by decide), rfl⟩)
                        refine ⟨fun L ρ w' hR hC hL hd hk => ?_, ?_⟩
                        · obtain ⟨k0, k1, -⟩ := hk
                          have e0 : ρ (.tmp 93) = Value.pointer (some ⟨g, j, none⟩) := k0
                          have e1 : ρ (.tmp 88) = uv zq := k1
                          clear k0 k1
                          refine Par.val_k fun K hK => ?_
                          unfold Par.val
                          (obtain ⟨hq, hs⟩ := hR.go 0 rfl hL (.inl rfl) (by decide); have hx := hq.1 (by decide); have hrow := RA.ext hx HR.out; obtain ⟨cc, ff⟩ := hrow.at (j := j) (by omega); obtain ⟨hset, hfs⟩ := hrow.set j zq; have HSET := hid hset; have HFS := hid hfs; clear hset hfs hrow; go_simp; exact hK _ _ ⟨hs none _ _ ⟨fun h => absurd h (by decide), HSET.out, (Ext.fr hx).trans HFS.out⟩, trivial⟩)
                        refine ⟨fun L ρ w' hR hC hL hd hk => ?_, ?_⟩
                        · obtain ⟨k0, k1, -⟩ := hk
                          have e0 : ρ (.tmp 81) = Value.slice (some ⟨g, 0, none⟩) n cap := k0
                          have e1 : ρ (.tmp 83) = Value.int IntKind.i64 (q : Int) := k1
                          clear k0 k1
                          refine Par.val_k fun K hK => ?_
                          unfold Par.val
                          (go_simp; exact hK _ _ ⟨hR.other (by decide), rfl⟩)
                        refine ⟨fun L ρ w' hR hC hL hd hk => ?_, ?_⟩
                        · obtain ⟨k0, k1, -⟩ := hk
                          have e0 : ρ (.tmp 94) = Value.pointer (some ⟨g, q, none⟩) := k0
                          have e1 : ρ (.tmp 92) = uv zj := k1
                          clear k0 k1
                          refine Par.val_k fun K hK => ?_
                          unfold Par.val
                          (obtain ⟨hq, hs⟩ := hR.go 1 rfl hL (.inr ⟨15, rfl, hC.before 15 (i := 17) rfl hd (by kernel_rfl)⟩) (by decide); obtain ⟨hrow, hfr⟩ := hq.2; obtain ⟨cc, ff⟩ := hrow.at (j := q) (by omega); obtain ⟨hset, hfs⟩ := hrow.set q zj; have HSET := hid hset; have HFS := hid hfs; have HFR := hid hfr; clear hset hfs hrow hfr; go_simp; exact hK _ _ ⟨hs none _ _ ⟨fun h => absurd h (by decide), HSET.out, HFR.out.trans HFS.out⟩, trivial⟩)
                        trivial
                      intro a' w' inv hR
                      have q79 : a'.tmps.getD 79 undef = Value.slice (some ⟨g, 0, none⟩) n cap := inv.done 0 _ 79 rfl rfl rfl
                      have q80 : a'.tmps.getD 80 undef = Value.int IntKind.i64 (j : Int) := inv.done 1 _ 80 rfl rfl rfl
                      have q81 : a'.tmps.getD 81 undef = Value.slice (some ⟨g, 0, none⟩) n cap := inv.done 2 _ 81 rfl rfl rfl
                      have q82 : a'.tmps.getD 82 undef = Value.int IntKind.i64 (j : Int) := inv.done 3 _ 82 rfl rfl rfl
                      have q83 : a'.tmps.getD 83 undef = Value.int IntKind.i64 (q : Int) := inv.done 4 _ 83 rfl rfl rfl
                      have q84 : a'.tmps.getD 84 undef = Value.slice (some ⟨g, 0, none⟩) n cap := inv.done 5 _ 84 rfl rfl rfl
                      have q85 : a'.tmps.getD 85 undef = Value.int IntKind.i64 (j : Int) := inv.done 6 _ 85 rfl rfl rfl
                      have q86 : a'.tmps.getD 86 undef = Value.int IntKind.i64 (q : Int) := inv.done 7 _ 86 rfl rfl rfl
                      have q87 : a'.tmps.getD 87 undef = Value.pointer (some ⟨g, q, none⟩) := inv.done 8 _ 87 rfl rfl rfl
                      have q88 : a'.tmps.getD 88 undef = uv zq := inv.done 9 _ 88 rfl rfl rfl
                      have q89 : a'.tmps.getD 89 undef = Value.slice (some ⟨g, 0, none⟩) n cap := inv.done 10 _ 89 rfl rfl rfl
                      have q90 : a'.tmps.getD 90 undef = Value.int IntKind.i64 (j : Int) := inv.done 11 _ 90 rfl rfl rfl
                      have q91 : a'.tmps.getD 91 undef = Value.pointer (some ⟨g, j, none⟩) := inv.done 12 _ 91 rfl rfl rfl
                      have q92 : a'.tmps.getD 92 undef = uv zj := inv.done 13 _ 92 rfl rfl rfl
                      have q93 : a'.tmps.getD 93 undef = Value.pointer (some ⟨g, j, none⟩) := inv.done 14 _ 93 rfl rfl rfl
                      have q94 : a'.tmps.getD 94 undef = Value.pointer (some ⟨g, q, none⟩) := inv.done 16 _ 94 rfl rfl rfl
                      clear inv
                      simp only [List.filterMap_cons, List.filterMap_nil, Par.putAll, Act.put, List.setIfInBounds_toArray, List.set_cons_succ, List.set_cons_zero, q79, q80, q81, q82, q83, q84, q85, q86, q87, q88, q89, q90, q91, q92, q93, q94]
                      clear q79 q80 q81 q82 q83 q84 q85 q86 q87 q88 q89 q90 q91 q92 q93 q94
                      obtain ⟨-, hrd, hf⟩ := Rg.Ch.fin hR (by decide) 2 rfl; have HRD := hid hrd; have HF4 := hid hf; clear hrd hf hR
                      try clear a'
                      have HR3 := hid (RA.swp Hzj Hzq HRD.out)
                      have HF3 := hid (HF.out.trans HF4.out)
                      clear HRD HF4 HR HF
                      have HR := HR3
                      have HF := HF3
                      clear HR3 HF3
                      go_wp2
                      go_roundw
                      case rel => exact ⟨q, swp d j q, hqb, by first | rfl | go_num, HR, HS2, HF⟩
                      case measure => simp [intOf] <;> omega
            case rest =>
              clear HR HF
              obtain ⟨HR, HF⟩ := hcut
              obtain ⟨d2, hd2⟩ : ∃ e, e = (if I - a ≥ 2 then shiftDown ltU Q d1 else d1) := ⟨_, rfl⟩
              rw [← hd2] at HR HPL
              clear hd2
              rcases Nat.lt_or_ge (b - I) 2 with h2 | h2
              · have hc2 : (2 ≤ b - I) = False := by simp; omega
                have HPL2 : Hid (partialIns ltU a b s I d2 = D) := hid (by rw [HPL.out, if_neg (by omega)])
                clear HPL
                go_wp2
                go_roundw
                case rel => exact ⟨I, s, t + 1, d2, hI1, hI2, by omega, by first | rfl | go_num, by first | rfl | go_num, HR, HPL2, HF⟩
                case measure => simp [intOf] <;> omega
              · have hd98 : decide ((2 : Int) ≤ ((b - I : Nat) : Int)) = true := by simp; omega
                obtain ⟨J0, hJ0⟩ : ∃ J0, J0 = I + 1 := ⟨_, rfl⟩
                obtain ⟨G, hG⟩ : ∃ G, shiftUp ltU b J0 d2 = G := ⟨_, rfl⟩
                have HPL2 : Hid (partialIns ltU a b s I G = D) := hid (by rw [HPL.out, if_pos h2, ← hJ0, hG])
                have HG := hid hG
                have HJ0 := hid hJ0
                have hJ0b : J0 ≤ b := by omega
                have hJ01 : 1 ≤ J0 := by omega
                clear hG hJ0 HPL
                go_wp2_with fail
                go_loopw [10] (fun jv wr => ∃ (j : Nat) (e : Array UInt64), 1 ≤ j ∧ j ≤ b ∧ jv = .int .i64 (j : Int) ∧ Hid (RA wr B g n cap e) ∧ Hid (shiftUp ltU b j e = G) ∧ Hid (Fr [g] w wr)) (fun jv _ => n + 1 - (intOf jv).toNat)
                case atStart => exact ⟨J0, d2, hJ01, hJ0b, by first | rfl | exact congrArg _ (by have := HJ0.out; omega) | go_num, HR, HG, HF⟩
                case round =>
                  clear HR HF HG
                  obtain ⟨j, d, hj1, hjb, rfl, HR, HS, HF⟩ := hrel
                  rcases Nat.lt_or_ge j b with hjlt | hjge
                  · obtain ⟨q, hq⟩ : ∃ q, q + 1 = j := ⟨j - 1, by omega⟩
                    have hwq : IntKind.i64.wrap ((j : Int) - 1) = (q : Int) := i64v _ (by omega) (by omega)
                    have hwj : IntKind.i64.wrap ((j : Int) + 1) = ((j + 1 : Nat) : Int) := i64v _ (by omega) (by omega)
                    have hjn : j < n := by omega
                    have hjn2 : (j : Int) < n := by omega
                    have hqn : q < n := by omega
                    have hqn2 : (q : Int) < n := by omega
                    obtain ⟨zj, Hzj, HCzj⟩ := cellV (B := B) (g := g) (n := n) (cap := cap) d j (by omega)
                    obtain ⟨zq, Hzq, HCzq⟩ := cellV (B := B) (g := g) (n := n) (cap := cap) d q (by omega)
                    obtain ⟨b0, Hb0⟩ : ∃ b, Hid (ltU zj zq = b) := ⟨_, hid rfl⟩
                    have HIN : Hid (shiftUp ltU b j d = if b0 then shiftUp ltU b (j + 1) (swp d j q) else d) := hid (by rw [shiftUp_go b j q hq hjlt d, Hzj.out, Hzq.out, Hb0.out])
                    clear hq
                    go_wp2_with fail
                    refine Par.wp_region_par (l := [_, _, _, _, _, _, _, _, _, _, _]) rfl Ext (Par.VL [Par.EQ (Value.slice (some ⟨g, 0, none⟩) n cap), Par.EQ (Value.int IntKind.i64 (j : Int)), Par.EQ (Value.pointer (some ⟨g, j, none⟩)), Par.EQ (uv zj), Par.EQ (Value.slice (some ⟨g, 0, none⟩) n cap), Par.EQ (Value.int IntKind.i64 (j : Int)), Par.EQ (Value.int IntKind.i64 (q : Int)), Par.EQ (Value.pointer (some ⟨g, q, none⟩)), Par.EQ (uv zq), Par.EQ (Value.bool b0), Par.EQ (Value.bool (!b0))]) (by kernel_rfl) Ext.refl (fun _ _ _ h1 h2 => Ext.trans h1 h2) (Ext.draw _) (Par.VL_stab ?_) ?_ ?_
                    · simp only [List.forall_mem_cons, List.not_mem_nil, false_implies, implies_true, and_true]
                      refine ⟨fun _ _ _ _ h => h, fun _ _ _ _ h => h, fun _ _ _ _ h => h, fun _ _ _ _ h => h, fun _ _ _ _ h => h, fun _ _ _ _ h => h, fun _ _ _ _ h => h, fun _ _ _ _ h => h, fun _ _ _ _ h => h, fun _ _ _ _ h => h, fun _ _ _ _ h => h⟩
                    · refine ⟨⟨fun _ _ => trivial, fun ρ w' hX hG hk => ?_⟩, ?_⟩
                      · exact Par.val_of_run rfl ⟨Ext.refl _, hk.1⟩
                      refine ⟨⟨fun _ _ => trivial, fun ρ w' hX hG hk => ?_⟩, ?_⟩
                      · exact Par.val_of_run rfl ⟨Ext.refl _, hk.1⟩
                      refine ⟨⟨fun _ _ => trivial, fun ρ w' hX hG hk => ?_⟩, ?_⟩
                      · obtain ⟨k0, k1, -⟩ := hk
                        have e0 : ρ (.tmp 106) = Value.slice (some ⟨g, 0, none⟩) n cap := k0
                        have e1 : ρ (.tmp 107) = Value.int IntKind.i64 (j : Int) := k1
                        clear k0 k1
                        refine Par.val_k fun K hK => ?_
                        unfold Par.val
                        (go_simp; exact hK _ _ ⟨Ext.refl _, rfl⟩)
                      refine ⟨⟨fun _ _ => trivial, fun ρ w' hX hG hk => ?_⟩, ?_⟩
                      · obtain ⟨k0, -⟩ := hk
                        have e0 : ρ (.tmp 108) = Value.pointer (some ⟨g, j, none⟩) := k0
                        clear k0
                        refine Par.val_k fun K hK => ?_
                        unfold Par.val
                        (have cc := HCzj.out _ (RA.ext hX HR.out); go_simp; exact hK _ _ ⟨Ext.refl _, rfl⟩)
                      refine ⟨⟨fun _ _ => trivial, fun ρ w' hX hG hk => ?_⟩, ?_⟩
                      · exact Par.val_of_run rfl ⟨Ext.refl _, hk.1⟩
                      refine ⟨⟨fun _ _ => trivial, fun ρ w' hX hG hk => ?_⟩, ?_⟩
                      · exact Par.val_of_run rfl ⟨Ext.refl _, hk.1⟩
                      refine ⟨⟨fun _ _ => trivial, fun ρ w' hX hG hk => ?_⟩, ?_⟩
                      · obtain ⟨k0, k1, -⟩ := hk
                        have e0 : ρ (.tmp 111) = Value.int IntKind.i64 (j : Int) := k0
                        have e1 : ρ (Operand.const (Value.int IntKind.i64 1)) = (Value.int IntKind.i64 1) := k1
                        clear k0 k1
                        refine Par.val_k fun K hK => ?_
                        unfold Par.val
                        (go_simp; exact hK _ _ ⟨Ext.refl _, rfl⟩)
                      refine ⟨⟨fun _ _ => trivial, fun ρ w' hX hG hk => ?_⟩, ?_⟩
                      · obtain ⟨k0, k1, -⟩ := hk
                        have e0 : ρ (.tmp 110) = Value.slice (some ⟨g, 0, none⟩) n cap := k0
                        have e1 : ρ (.tmp 112) = Value.int IntKind.i64 (q : Int) := k1
                        clear k0 k1
                        refine Par.val_k fun K hK => ?_
                        unfold Par.val
                        (go_simp; exact hK _ _ ⟨Ext.refl _, rfl⟩)
                      refine ⟨⟨fun _ _ => trivial, fun ρ w' hX hG hk => ?_⟩, ?_⟩
                      · obtain ⟨k0, -⟩ := hk
                        have e0 : ρ (.tmp 113) = Value.pointer (some ⟨g, q, none⟩) := k0
                        clear k0
                        refine Par.val_k fun K hK => ?_
                        unfold Par.val
                        (have cc := HCzq.out _ (RA.ext hX HR.out); go_simp; exact hK _ _ ⟨Ext.refl _, rfl⟩)
                      refine ⟨⟨fun _ _ => trivial, fun ρ w' hX hG hk => ?_⟩, ?_⟩
                      · obtain ⟨k0, k1, k2, -⟩ := hk
                        have e0 := k0
                        have e1 : ρ (.tmp 109) = uv zj := k1
                        have e2 : ρ (.tmp 114) = uv zq := k2
                        clear k0 k1 k2
                        refine Par.val_k fun K hK => ?_
                        unfold Par.val
                        refine Par.val_call Tryd.func46 (by kernel_rfl) rfl e0 ?_
                        simp only [List.map_toArray, List.map_cons, List.map_nil, e1, e2]
                        refine (lessU_any zj zq _).mono ?_
                        rintro e w2 ⟨rfl, rfl⟩
                        exact ⟨_, rfl, hK _ _ ⟨Ext.refl _, (congrArg Value.bool Hb0.out)⟩⟩
                      refine ⟨⟨fun _ _ => trivial, fun ρ w' hX hG hk => ?_⟩, ?_⟩
                      · obtain ⟨k0, -⟩ := hk
                        have e0 : ρ (.tmp 115) = Value.bool b0 := k0
                        clear k0
                        refine Par.val_k fun K hK => ?_
                        unfold Par.val
                        (go_simp; exact hK _ _ ⟨Ext.refl _, rfl⟩)
                      trivial
                    intro a' w' inv
                    have hX := inv.ext
                    have q106 : a'.tmps.getD 106 undef = Value.slice (some ⟨g, 0, none⟩) n cap := inv.done 0 _ 106 rfl rfl rfl
                    have q107 : a'.tmps.getD 107 undef = Value.int IntKind.i64 (j : Int) := inv.done 1 _ 107 rfl rfl rfl
                    have q108 : a'.tmps.getD 108 undef = Value.pointer (some ⟨g, j, none⟩) := inv.done 2 _ 108 rfl rfl rfl
                    have q109 : a'.tmps.getD 109 undef = uv zj := inv.done 3 _ 109 rfl rfl rfl
                    have q110 : a'.tmps.getD 110 undef = Value.slice (some ⟨g, 0, none⟩) n cap := inv.done 4 _ 110 rfl rfl rfl
                    have q111 : a'.tmps.getD 111 undef = Value.int IntKind.i64 (j : Int) := inv.done 5 _ 111 rfl rfl rfl
                    have q112 : a'.tmps.getD 112 undef = Value.int IntKind.i64 (q : Int) := inv.done 6 _ 112 rfl rfl rfl
                    have q113 : a'.tmps.getD 113 undef = Value.pointer (some ⟨g, q, none⟩) := inv.done 7 _ 113 rfl rfl rfl
                    have q114 : a'.tmps.getD 114 undef = uv zq := inv.done 8 _ 114 rfl rfl rfl
                    have q115 : a'.tmps.getD 115 undef = Value.bool b0 := inv.done 9 _ 115 rfl rfl rfl
                    have q116 : a'.tmps.getD 116 undef = Value.bool (!b0) := inv.done 10 _ 116 rfl rfl rfl
                    clear inv
                    simp only [List.filterMap_cons, List.filterMap_nil, Par.putAll, Act.put, List.setIfInBounds_toArray, List.set_cons_succ, List.set_cons_zero, q106, q107, q108, q109, q110, q111, q112, q113, q114, q115, q116]
                    clear q106 q107 q108 q109 q110 q111 q112 q113 q114 q115 q116
                    clear a'
                    have HF2 := hid (HF.out.trans (Ext.fr hX))
                    have HR2 := hid (RA.ext hX HR.out)
                    clear hX HF HR
                    have HF := HF2
                    have HR := HR2
                    clear HF2 HR2
                    cases b0
                    case false =>
                      have HS2 : Hid (d = G) := hid (by have := HS.out; rw [HIN.out] at this; simpa using this)
                      have HR2 : Hid (RA _ B g n cap G) := hid (by have := HR.out; rw [HS2.out] at this; exact this)
                      go_wp2
                      go_roundw
                      case rel => exact ⟨I, s, t + 1, G, hI1, hI2, by omega, by first | rfl | go_num, by first | rfl | go_num, HR2, HPL2, HF⟩
                      case measure => simp [intOf] <;> omega
                    case true =>
                      have HS2 : Hid (shiftUp ltU b (j + 1) (swp d j q) = G) := hid (by have := HS.out; rw [HIN.out] at this; simpa using this)
                      go_wp2_with fail
                      refine ParE.wp_region_e (l := [_, _, _, _, _, _, _, _, _, _, _, _, _, _, _, _, _, _]) rfl (Rg.Ch [15, 17] [] (SwV _ B g n cap j q zj zq d)) (ParC.VC [ParC.EQ (Value.slice (some ⟨g, 0, none⟩) n cap), ParC.EQ (Value.int IntKind.i64 (j : Int)), ParC.EQ (Value.slice (some ⟨g, 0, none⟩) n cap), ParC.EQ (Value.int IntKind.i64 (j : Int)), ParC.EQ (Value.int IntKind.i64 (q : Int)), ParC.EQ (Value.slice (some ⟨g, 0, none⟩) n cap), ParC.EQ (Value.int IntKind.i64 (j : Int)), ParC.EQ (Value.int IntKind.i64 (q : Int)), ParC.EQ (Value.pointer (some ⟨g, q, none⟩)), ParC.EQ (uv zq), ParC.EQ (Value.slice (some ⟨g, 0, none⟩) n cap), ParC.EQ (Value.int IntKind.i64 (j : Int)), ParC.EQ (Value.pointer (some ⟨g, j, none⟩)), ParC.EQ (uv zj), ParC.EQ (Value.pointer (some ⟨g, j, none⟩)), fun _ => True, ParC.EQ (Value.pointer (some ⟨g, q, none⟩)), fun _ => True]) (by kernel_rfl) (by kernel_rfl) (Rg.Ch.start ⟨fun _ => Ext.draw _, trivial⟩) ?_ ?_
                      · refine ⟨fun L ρ w' hR hC hL hd hk => ?_, ?_⟩
                        · exact Par.val_of_run rfl ⟨hR.other (by decide), hk.1⟩
                        refine ⟨fun L ρ w' hR hC hL hd hk => ?_, ?_⟩
                        · exact Par.val_of_run rfl ⟨hR.other (by decide), hk.1⟩
                        refine ⟨fun L ρ w' hR hC hL hd hk => ?_, ?_⟩
                        · exact Par.val_of_run rfl ⟨hR.other (by decide), hk.1⟩
                        refine ⟨fun L ρ w' hR hC hL hd hk => ?_, ?_⟩
                        · exact Par.val_of_run rfl ⟨hR.other (by decide), hk.1⟩
                        refine ⟨fun L ρ w' hR hC hL hd hk => ?_, ?_⟩
                        · obtain ⟨k0, k1, -⟩ := hk
                          have e0 : ρ (.tmp 120) = Value.int IntKind.i64 (j : Int) := k0
                          have e1 : ρ (Operand.const (Value.int IntKind.i64 1)) = (Value.int IntKind.i64 1) := k1
                          clear k0 k1
                          refine Par.val_k fun K hK => ?_
                          unfold Par.val
                          (go_simp; exact hK _ _ ⟨hR.other (by decide), rfl⟩)
                        refine ⟨fun L ρ w' hR hC hL hd hk => ?_, ?_⟩
                        · exact Par.val_of_run rfl ⟨hR.other (by decide), hk.1⟩
                        refine ⟨fun L ρ w' hR hC hL hd hk => ?_, ?_⟩
                        · exact Par.val_of_run rfl ⟨hR.other (by decide), hk.1⟩
                        refine ⟨fun L ρ w' hR hC hL hd hk => ?_, ?_⟩
                        · obtain ⟨k0, k1, -⟩ := hk
                          have e0 : ρ (.tmp 123) = Value.int IntKind.i64 (j : Int) := k0
                          have e1 : ρ (Operand.const (Value.int IntKind.i64 1)) = (Value.int IntKind.i64 1) := k1
                          clear k0 k1
                          refine Par.val_k fun K hK => ?_
                          unfold Par.val
                          (go_simp; exact hK _ _ ⟨hR.other (by decide), rfl⟩)
                        refine ⟨fun L ρ w' hR hC hL hd hk => ?_, ?_⟩
                        · obtain ⟨k0, k1, -⟩ := hk
                          have e0 : ρ (.tmp 122) = Value.slice (some ⟨g, 0, none⟩) n cap := k0
                          have e1 : ρ (.tmp 124) = Value.int IntKind.i64 (q : Int) := k1
                          clear k0 k1
                          refine Par.val_k fun K hK => ?_
                          unfold Par.val
                          (go_simp; exact hK _ _ ⟨hR.other (by decide), rfl⟩)
                        refine ⟨fun L ρ w' hR hC hL hd hk => ?_, ?_⟩
                        · obtain ⟨k0, -⟩ := hk
                          have e0 : ρ (.tmp 125) = Value.pointer (some ⟨g, q, none⟩) := k0
                          clear k0
                          refine Par.val_k fun K hK => ?_
                          unfold Par.val
                          (obtain ⟨ii, hii, hq⟩ := hR.some 0 rfl (hC.notyet 15 9 hL (by kernel_rfl)); have cc := HCzq.out _ (RA.ext (hq.1 (by omega)) HR.out); go_simp; exact hK _ _ ⟨hR.other (by decide), rfl⟩)
                        refine ⟨fun L ρ w' hR hC hL hd hk => ?_, ?_⟩
                        · exact Par.val_of_run rfl ⟨hR.other (by decide), hk.1⟩
                        refine ⟨fun L ρ w' hR hC hL hd hk => ?_, ?_⟩
                        · exact Par.val_of_run rfl ⟨hR.other (by decide), hk.1⟩
                        refine ⟨fun L ρ w' hR hC hL hd hk => ?_, ?_⟩
                        · obtain ⟨k0, k1, -⟩ := hk
                          have e0 : ρ (.tmp 127) = Value.slice (some ⟨g, 0, none⟩) n cap := k0
                          have e1 : ρ (.tmp 128) = Value.int IntKind.i64 (j : Int) := k1
                          clear k0 k1
                          refine Par.val_k fun K hK => ?_
                          unfold Par.val
                          (go_simp; exact hK _ _ ⟨hR.other (by decide), rfl⟩)
                        refine ⟨fun L ρ w' hR hC hL hd hk => ?_, ?_⟩
                        · obtain ⟨k0, -⟩ := hk
                          have e0 : ρ (.tmp 129) = Value.pointer (some ⟨g, j, none⟩) := k0
                          clear k0
                          refine Par.val_k fun K hK => ?_
                          unfold Par.val
                          (obtain ⟨ii, hii, hq⟩ := hR.some 0 rfl (hC.notyet 15 13 hL (by kernel_rfl)); have cc := HCzj.out _ (RA.ext (hq.1 (by omega)) HR.out); go_simp; exact hK _ _ ⟨hR.other (by decide), rfl⟩)
                        refine ⟨fun L ρ w' hR hC hL hd hk => ?_, ?_⟩
                        · obtain ⟨k0, k1, -⟩ := hk
                          have e0 : ρ (.tmp 117) = Value.slice (some ⟨g, 0, none⟩) n cap := k0
                          have e1 : ρ (.tmp 118) = Value.int IntKind.i64 (j : Int) := k1
                          clear k0 k1
                          refine Par.val_k fun K hK => ?_
                          unfold Par.val
                          (go_simp; exact hK _ _ ⟨hR.other (by decide), rfl⟩)
                        refine ⟨fun L ρ w' hR hC hL hd hk => ?_, ?_⟩
                        · obtain ⟨k0, k1, -⟩ := hk
                          have e0 : ρ (.tmp 131) = Value.pointer (some ⟨g, j, none⟩) := k0
                          have e1 : ρ (.tmp 126) = uv zq := k1
                          clear k0 k1
                          refine Par.val_k fun K hK => ?_
                          unfold Par.val
                          (obtain ⟨hq, hs⟩ := hR.go 0 rfl hL (.inl rfl) (by decide); have hx := hq.1 (by decide); have hrow := RA.ext hx HR.out; obtain ⟨cc, ff⟩ := hrow.at (j := j) (by omega); obtain ⟨hset, hfs⟩ := hrow.set j zq; have HSET := hid hset; have HFS := hid hfs; clear hset hfs hrow; go_simp; exact hK _ _ ⟨hs none _ _ ⟨fun h => absurd h (by decide), HSET.out, (Ext.fr hx).trans HFS.out⟩, trivial⟩)
                        refine ⟨fun L ρ w' hR hC hL hd hk => ?_, ?_⟩
                        · obtain ⟨k0, k1, -⟩ := hk
                          have e0 : ρ (.tmp 119) = Value.slice (some ⟨g, 0, none⟩) n cap := k0
                          have e1 : ρ (.tmp 121) = Value.int IntKind.i64 (q : Int) := k1
                          clear k0 k1
                          refine Par.val_k fun K hK => ?_
                          unfold Par.val
                          (go_simp; exact hK _ _ ⟨hR.other (by decide), rfl⟩)
                        refine ⟨fun L ρ w' hR hC hL hd hk => ?_, ?_⟩
                        · obtain ⟨k0, k1, -⟩ := hk
                          have e0 : ρ (.tmp 132) = Value.pointer (some ⟨g, q, none⟩) := k0
                          have e1 : ρ (.tmp 130) = uv zj := k1
                          clear k0 k1
                          refine Par.val_k fun K hK => ?_
                          unfold Par.val
                          (obtain ⟨hq, hs⟩ := hR.go 1 rfl hL (.inr ⟨15, rfl, hC.before 15 (i := 17) rfl hd (by kernel_rfl)⟩) (by decide); obtain ⟨hrow, hfr⟩ := hq.2; obtain ⟨cc, ff⟩ := hrow.at (j := q) (by omega); obtain ⟨hset, hfs⟩ := hrow.set q zj; have HSET := hid hset; have HFS := hid hfs; have HFR := hid hfr; clear hset hfs hrow hfr; go_simp; exact hK _ _ ⟨hs none _ _ ⟨fun h => absurd h (by decide), HSET.out, HFR.out.trans HFS.out⟩, trivial⟩)
                        trivial
                      intro a' w' inv hR
                      have q117 : a'.tmps.getD 117 undef = Value.slice (some ⟨g, 0, none⟩) n cap := inv.done 0 _ 117 rfl rfl rfl
                      have q118 : a'.tmps.getD 118 undef = Value.int IntKind.i64 (j : Int) := inv.done 1 _ 118 rfl rfl rfl
                      have q119 : a'.tmps.getD 119 undef = Value.slice (some ⟨g, 0, none⟩) n cap := inv.done 2 _ 119 rfl rfl rfl
                      have q120 : a'.tmps.getD 120 undef = Value.int IntKind.i64 (j : Int) := inv.done 3 _ 120 rfl rfl rfl
                      have q121 : a'.tmps.getD 121 undef = Value.int IntKind.i64 (q : Int) := inv.done 4 _ 121 rfl rfl rfl
                      have q122 : a'.tmps.getD 122 undef = Value.slice (some ⟨g, 0, none⟩) n cap := inv.done 5 _ 122 rfl rfl rfl
                      have q123 : a'.tmps.getD 123 undef = Value.int IntKind.i64 (j : Int) := inv.done 6 _ 123 rfl rfl rfl
                      have q124 : a'.tmps.getD 124 undef = Value.int IntKind.i64 (q : Int) := inv.done 7 _ 124 rfl rfl rfl
                      have q125 : a'.tmps.getD 125 undef = Value.pointer (some ⟨g, q, none⟩) := inv.done 8 _ 125 rfl rfl rfl
                      have q126 : a'.tmps.getD 126 undef = uv zq := inv.done 9 _ 126 rfl rfl rfl
                      have q127 : a'.tmps.getD 127 undef = Value.slice (some ⟨g, 0, none⟩) n cap := inv.done 10 _ 127 rfl rfl rfl
                      have q128 : a'.tmps.getD 128 undef = Value.int IntKind.i64 (j : Int) := inv.done 11 _ 128 rfl rfl rfl
                      have q129 : a'.tmps.getD 129 undef = Value.pointer (some ⟨g, j, none⟩) := inv.done 12 _ 129 rfl rfl rfl
                      have q130 : a'.tmps.getD 130 undef = uv zj := inv.done 13 _ 130 rfl rfl rfl
                      have q131 : a'.tmps.getD 131 undef = Value.pointer (some ⟨g, j, none⟩) := inv.done 14 _ 131 rfl rfl rfl
                      have q132 : a'.tmps.getD 132 undef = Value.pointer (some ⟨g, q, none⟩) := inv.done 16 _ 132 rfl rfl rfl
                      clear inv
                      simp only [List.filterMap_cons, List.filterMap_nil, Par.putAll, Act.put, List.setIfInBounds_toArray, List.set_cons_succ, List.set_cons_zero, q117, q118, q119, q120, q121, q122, q123, q124, q125, q126, q127, q128, q129, q130, q131, q132]
                      clear q117 q118 q119 q120 q121 q122 q123 q124 q125 q126 q127 q128 q129 q130 q131 q132
                      obtain ⟨-, hrd, hf⟩ := Rg.Ch.fin hR (by decide) 2 rfl; have HRD := hid hrd; have HF4 := hid hf; clear hrd hf hR
                      try clear a'
                      have HR3 := hid (RA.swp Hzj Hzq HRD.out)
                      have HF3 := hid (HF.out.trans HF4.out)
                      clear HRD HF4 HR HF
                      have HR := HR3
                      have HF := HF3
                      clear HR3 HF3
                      go_wp2
                      go_roundw
                      case rel => exact ⟨j + 1, swp d j q, by omega, by omega, by first | rfl | go_num, HR, HS2, HF⟩
                      case measure => simp [intOf] <;> omega
                  · have hcm : (j < b) = False := by simp; omega
                    have HS2 : Hid (d = G) := hid (by have := HS.out; rw [shiftUp_stop b j hjge d] at this; exact this)
                    have HR2 : Hid (RA _ B g n cap G) := hid (by have := HR.out; rw [HS2.out] at this; exact this)
                    go_wp2
                    go_roundw
                    case rel => exact ⟨I, s, t + 1, G, hI1, hI2, by omega, by first | rfl | go_num, by first | rfl | go_num, HR2, HPL2, HF⟩
                    case measure => simp [intOf] <;> omega
        · have HIB : Hid (I = b) := hid (by omega)
          have HPP : Hid (D = (d, true)) := hid (by rw [← HL.out, HEQ.out, if_pos HIB.out])
          have hee : (I = b) = True := by simp; exact HIB.out
          go_wp2
          go_returns
          exact ⟨by rw [HPP.out]; rfl, by rw [HPP.out]; exact HR.out, HF.out⟩
end Go.Proofs.YtpbmbjdiilnaeaaDoor
