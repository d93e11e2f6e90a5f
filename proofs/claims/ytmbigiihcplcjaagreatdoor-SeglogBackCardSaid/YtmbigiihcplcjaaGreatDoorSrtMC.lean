/- slices.Sort of any row of numbers.
partialInsertionSort of a part of a row of numbers.
The choice of a pivot: any place of the part.
What breaks patterns: numbers that jump, a power of two.
breakPatterns of a part of a row of numbers.
pdqsort of a part of a row of numbers: sorted, a permutation. -/
import Derived.Test.YtmbigiihcplcjaaGreatDoorSrtMA
import Derived.Deep.CutBlock
import Derived.OneCell
import Derived.Laws.Bits64
import Derived.Laws.Bits64b
import Derived.Sort.WalkA14
import Derived.Sort.Lot0
import Derived.Test.YtmbigiihcplcjaaGreatDoorSrtMB
import Derived.Sort.LotD3
set_option linter.unusedSimpArgs false
set_option linter.unusedVariables false
namespace Go.Proofs.YtmbigiihcplcjaaGreatDoor
open Go Go.RowKit Go.Tum Go.ChangeMaps Go.Sort
open Go.ParB (upd Lof)
open Go.ParE (putS slotsR slots Closed)

theorem scanSorted_stop (d : Array UInt64) (b i : Nat) (h : b ≤ i) : scanSorted ltU d b i = i := by
 rw [scanSorted, if_neg]
 simp; omega
theorem scanSorted_go (d : Array UInt64) (b i q : Nat) (hq : q + 1 = i) (h : i < b) : scanSorted ltU d b i = if ltU d[i]! d[q]! then i else scanSorted ltU d b (i + 1) := by
 subst hq
 rw [scanSorted]
 have : decide (q + 1 < b) = true := by simpa using h
 simp only [this, Bool.true_and, Nat.add_sub_cancel]
 cases ltU d[q + 1]! d[q]! <;> simp
theorem shiftDown_go (j q : Nat) (hq : q + 1 = j) (d : Array UInt64) : shiftDown ltU j d = if ltU d[j]! d[q]! then shiftDown ltU q (swp d j q) else d := by
 subst hq
 rw [shiftDown]
 cases ltU d[q + 1]! d[q]! <;> simp
theorem shiftUp_go (b j q : Nat) (hq : q + 1 = j) (h : j < b) (d : Array UInt64) : shiftUp ltU b j d = if ltU d[j]! d[q]! then shiftUp ltU b (j + 1) (swp d j q) else d := by
 subst hq
 rw [shiftUp, if_pos h]
 simp only [Nat.add_sub_cancel]
 cases ltU d[q + 1]! d[q]! <;> simp
theorem shiftUp_stop (b j : Nat) (h : b ≤ j) (d : Array UInt64) : shiftUp ltU b j d = d := by
 rw [shiftUp, if_neg (by omega)]
/-- One step. -/
theorem pins_unf (a b s i : Nat) (d : Array UInt64) {I Q : Nat} (hI : scanSorted ltU d b i = I) (hQ : Q + 1 = I) : partialIns ltU a b (s + 1) i d =
 if I = b then (d, true) else if b - a < 50 then (d, false) else
  partialIns ltU a b s I (if b - I ≥ 2 then shiftUp ltU b (I + 1) (if I - a ≥ 2 then shiftDown ltU Q (swp d I Q) else swp d I Q) else (if I - a ≥ 2 then shiftDown ltU Q (swp d I Q) else swp d I Q)) := by
 rw [partialIns]
 simp only [hI, show I - 1 = Q by omega]
set_option maxRecDepth 100000 in
set_option maxHeartbeats 4000000 in
theorem pinsV_any {B : Nat} {w : World} (g n cap a b : Nat) (d0 : Array UInt64) (h : RA w B g n cap d0) (hab : a < b) (hbn : b ≤ n) (hbig : n ≤ 4611686018427387903) :
 Calls Tryz.prog 120 #[.slice (some ⟨g, 0, none⟩) n cap, .int .i64 (a : Int), .int .i64 (b : Int)] w fun e w' =>
  e = .returned (.bool (partialInsertionSort ltU d0 a b).2) ∧ RA w' B g n cap (partialInsertionSort ltU d0 a b).1 ∧ Fr [g] w w' := by
 obtain ⟨D, hD⟩ : ∃ D, partialInsertionSort ltU d0 a b = D := ⟨_, rfl⟩
 rw [hD]
 obtain ⟨I0, hI0⟩ : ∃ I0, I0 = a + 1 := ⟨_, rfl⟩
 have HD : Hid (partialIns ltU a b 5 I0 d0 = D) := hid (by rw [hI0]; exact hD)
 have HR := hid h
 have HF : Hid (Fr [g] w w) := hid (Fr.refl _ _)
 obtain ⟨hcap1, hcap2⟩ := h.bound
 clear h hD
 have hwa : IntKind.i64.wrap ((a : Int) + 1) = (I0 : Int) := i64v _ (by omega) (by omega)
 have hwba : IntKind.i64.wrap ((b : Int) - (a : Int)) = ((b - a : Nat) : Int) := i64v _ (by omega) (by omega)
 have hI0a : a + 1 ≤ I0 := by omega
 have hI0b : I0 ≤ b := by omega
 clear hI0
 go_enter Tryz.func120, Tryz.ntmps120
 go_wp2_with fail
 go_loopw [7, 8] (fun iv sv wr => ∃ (i s t : Nat) (e : Array UInt64), a + 1 ≤ i ∧ i ≤ b ∧ s + t = 5 ∧ iv = .int .i64 (i : Int) ∧ sv = .int .i64 (t : Int) ∧ Hid (RA wr B g n cap e) ∧ Hid (partialIns ltU a b s i e = D) ∧ Hid (Fr [g] w wr)) (fun _ sv _ => 5 - (intOf sv).toNat)
 case atStart => exact ⟨I0, 5, 0, d0, hI0a, hI0b, by omega, by first | rfl | go_num, by first | rfl | go_num, HR, HD, HF⟩
 case round =>
  clear HR HF HD hwa
  obtain ⟨i0, s, t, d, hi0a, hi0b, hst, rfl, rfl, HR, HL, HF⟩ := hrel
  rcases Nat.eq_zero_or_pos s with rfl | hs
  · have hcmp : (t < 5) = False := by simp; omega
    have HPP : Hid (D = (d, false)) := hid HL.out.symm
    clear HL
    go_wp2
    go_returns
    exact ⟨by rw [HPP.out]; rfl, by rw [HPP.out]; exact HR.out, HF.out⟩
  · obtain ⟨s, rfl⟩ : ∃ k, s = k + 1 := ⟨s - 1, by omega⟩
    have hcmp : t < 5 := by omega
    have hwt : IntKind.i64.wrap ((t : Int) + 1) = ((t + 1 : Nat) : Int) := i64v _ (by omega) (by omega)
    go_upto_block 2 with fail
    go_cut [7] from 13 to 132 (fun iv wx => ∃ i : Nat, a + 1 ≤ i ∧ i ≤ b ∧ iv = .int .i64 (i : Int) ∧ Hid (RA wx B g n cap d) ∧ Hid (scanSorted ltU d b i0 = i) ∧ Hid (Fr [g] w wx))
    case first =>
     go_wp2_with fail
     go_loopw [7] (fun iv wr => ∃ i : Nat, a + 1 ≤ i ∧ i ≤ b ∧ iv = .int .i64 (i : Int) ∧ Hid (RA wr B g n cap d) ∧ Hid (scanSorted ltU d b i = scanSorted ltU d b i0) ∧ Hid (Fr [g] w wr)) (fun iv _ => n + 1 - (intOf iv).toNat)
     case atStart => exact ⟨i0, hi0a, hi0b, by first | rfl | go_num, HR, hid rfl, HF⟩
     case round =>
      clear HR HF
      obtain ⟨i, hi1, hi2, rfl, HR, HO, HF⟩ := hrel
      rcases Nat.lt_or_ge i b with hib | hib
      · obtain ⟨q, hq⟩ : ∃ q, q + 1 = i := ⟨i - 1, by omega⟩
        have hwi : IntKind.i64.wrap ((i : Int) + 1) = ((i + 1 : Nat) : Int) := i64v _ (by omega) (by omega)
        have hwq : IntKind.i64.wrap ((i : Int) - 1) = (q : Int) := i64v _ (by omega) (by omega)
        have hin : i < n := by omega
        have hin2 : (i : Int) < n := by omega
        have hqn : q < n := by omega
        have hqn2 : (q : Int) < n := by omega
        obtain ⟨zi, Hzi, HCzi⟩ := cellV (B := B) (g := g) (n := n) (cap := cap) d i (by omega)
        obtain ⟨zq, Hzq, HCzq⟩ := cellV (B := B) (g := g) (n := n) (cap := cap) d q (by omega)
        obtain ⟨b0, Hb0⟩ : ∃ b, Hid (ltU zi zq = b) := ⟨_, hid rfl⟩
        have HIN : Hid (scanSorted ltU d b i = if b0 then i else scanSorted ltU d b (i + 1)) := hid (by rw [scanSorted_go d b i q hq hib, Hzi.out, Hzq.out, Hb0.out])
        clear hq
        go_wp2_with fail
        refine Par.wp_region_par (l := [_, _, _, _, _, _, _, _, _, _, _, _, _, _, _, _]) rfl Ext (Par.VL [Par.EQ (Value.int IntKind.i64 (i : Int)), Par.EQ (Value.int IntKind.i64 (b : Int)), Par.EQ (Value.bool true), Par.EQ (Value.bool true), Par.EQ (Value.slice (some ⟨g, 0, none⟩) n cap), Par.EQ (Value.int IntKind.i64 (i : Int)), Par.EQ (Value.pointer (some ⟨g, i, none⟩)), Par.EQ (uv zi), Par.EQ (Value.slice (some ⟨g, 0, none⟩) n cap), Par.EQ (Value.int IntKind.i64 (i : Int)), Par.EQ (Value.int IntKind.i64 (q : Int)), Par.EQ (Value.pointer (some ⟨g, q, none⟩)), Par.EQ (uv zq), Par.EQ (Value.bool b0), Par.EQ (Value.bool (!b0)), Par.EQ (Value.bool (!b0))]) (by kernel_rfl) Ext.refl (fun _ _ _ h1 h2 => Ext.trans h1 h2) (Ext.draw _) (Par.VL_stab ?_) ?_ ?_
        · simp only [List.forall_mem_cons, List.not_mem_nil, false_implies, implies_true, and_true]
          refine ⟨fun _ _ _ _ h => h, fun _ _ _ _ h => h, fun _ _ _ _ h => h, fun _ _ _ _ h => h, fun _ _ _ _ h => h, fun _ _ _ _ h => h, fun _ _ _ _ h => h, fun _ _ _ _ h => h, fun _ _ _ _ h => h, fun _ _ _ _ h => h, fun _ _ _ _ h => h, fun _ _ _ _ h => h, fun _ _ _ _ h => h, fun _ _ _ _ h => h, fun _ _ _ _ h => h, fun _ _ _ _ h => h⟩
        · refine ⟨⟨fun _ _ => trivial, fun ρ w' hX hG hk => ?_⟩, ?_⟩
          · exact Par.val_of_run rfl ⟨Ext.refl _, hk.1⟩
          refine ⟨⟨fun _ _ => trivial, fun ρ w' hX hG hk => ?_⟩, ?_⟩
          · exact Par.val_of_run rfl ⟨Ext.refl _, hk.1⟩
          refine ⟨⟨fun _ _ => trivial, fun ρ w' hX hG hk => ?_⟩, ?_⟩
          · obtain ⟨(e0 : ρ (.tmp 17) = Value.int IntKind.i64 (i : Int)), (e1 : ρ (.tmp 18) = Value.int IntKind.i64 (b : Int)), -⟩ := hk; refine Par.val_k fun K hK => ?_; unfold Par.val
            (go_simp; exact hK _ _ ⟨Ext.refl _, rfl⟩)
          refine ⟨⟨fun _ _ => trivial, fun ρ w' hX hG hk => ?_⟩, ?_⟩
          · exact Par.val_of_run rfl ⟨Ext.refl _, hk.1⟩
          refine ⟨⟨fun _ _ u hu => .inl hu, fun ρ w' hX hG hk => ?_⟩, ?_⟩
          · exact Par.val_of_run rfl ⟨Ext.refl _, hk.1⟩
          refine ⟨⟨fun _ _ u hu => .inl hu, fun ρ w' hX hG hk => ?_⟩, ?_⟩
          · exact Par.val_of_run rfl ⟨Ext.refl _, hk.1⟩
          refine ⟨⟨fun _ _ u hu => .inl hu, fun ρ w' hX hG hk => ?_⟩, ?_⟩
          · obtain ⟨(e0 : ρ (.tmp 21) = Value.slice (some ⟨g, 0, none⟩) n cap), (e1 : ρ (.tmp 22) = Value.int IntKind.i64 (i : Int)), -⟩ := hk; refine Par.val_k fun K hK => ?_; unfold Par.val
            (go_simp; exact hK _ _ ⟨Ext.refl _, rfl⟩)
          refine ⟨⟨fun _ _ u hu => .inl hu, fun ρ w' hX hG hk => ?_⟩, ?_⟩
          · obtain ⟨(e0 : ρ (.tmp 23) = Value.pointer (some ⟨g, i, none⟩)), -⟩ := hk; refine Par.val_k fun K hK => ?_; unfold Par.val
            (have cc := HCzi.out _ (RA.ext hX HR.out); go_simp; exact hK _ _ ⟨Ext.refl _, rfl⟩)
          refine ⟨⟨fun _ _ u hu => .inl hu, fun ρ w' hX hG hk => ?_⟩, ?_⟩
          · exact Par.val_of_run rfl ⟨Ext.refl _, hk.1⟩
          refine ⟨⟨fun _ _ u hu => .inl hu, fun ρ w' hX hG hk => ?_⟩, ?_⟩
          · exact Par.val_of_run rfl ⟨Ext.refl _, hk.1⟩
          refine ⟨⟨fun _ _ u hu => .inl hu, fun ρ w' hX hG hk => ?_⟩, ?_⟩
          · obtain ⟨(e0 : ρ (.tmp 26) = Value.int IntKind.i64 (i : Int)), (e1 : ρ (Operand.const (Value.int IntKind.i64 1)) = (Value.int IntKind.i64 1)), -⟩ := hk; refine Par.val_k fun K hK => ?_; unfold Par.val
            (go_simp; exact hK _ _ ⟨Ext.refl _, rfl⟩)
          refine ⟨⟨fun _ _ u hu => .inl hu, fun ρ w' hX hG hk => ?_⟩, ?_⟩
          · obtain ⟨(e0 : ρ (.tmp 25) = Value.slice (some ⟨g, 0, none⟩) n cap), (e1 : ρ (.tmp 27) = Value.int IntKind.i64 (q : Int)), -⟩ := hk; refine Par.val_k fun K hK => ?_; unfold Par.val
            (go_simp; exact hK _ _ ⟨Ext.refl _, rfl⟩)
          refine ⟨⟨fun _ _ u hu => .inl hu, fun ρ w' hX hG hk => ?_⟩, ?_⟩
          · obtain ⟨(e0 : ρ (.tmp 28) = Value.pointer (some ⟨g, q, none⟩)), -⟩ := hk; refine Par.val_k fun K hK => ?_; unfold Par.val
            (have cc := HCzq.out _ (RA.ext hX HR.out); go_simp; exact hK _ _ ⟨Ext.refl _, rfl⟩)
          refine ⟨⟨fun _ _ u hu => .inl hu, fun ρ w' hX hG hk => ?_⟩, ?_⟩
          · obtain ⟨e0, (e1 : ρ (.tmp 24) = uv zi), (e2 : ρ (.tmp 29) = uv zq), -⟩ := hk; refine Par.val_k fun K hK => ?_; unfold Par.val
            refine Par.val_call Tryz.func121 (by kernel_rfl) rfl e0 ?_
            simp only [List.map_toArray, List.map_cons, List.map_nil, e1, e2]
            refine (lessU_any zi zq _).mono ?_
            rintro e w2 ⟨rfl, rfl⟩
            exact ⟨_, rfl, hK _ _ ⟨Ext.refl _, (congrArg Value.bool Hb0.out)⟩⟩
          refine ⟨⟨fun _ _ u hu => .inl hu, fun ρ w' hX hG hk => ?_⟩, ?_⟩
          · obtain ⟨(e0 : ρ (.tmp 30) = Value.bool b0), -⟩ := hk; refine Par.val_k fun K hK => ?_; unfold Par.val
            (go_simp; exact hK _ _ ⟨Ext.refl _, rfl⟩)
          refine ⟨⟨fun _ _ => trivial, fun ρ w' hX hG hk => ?_⟩, ?_⟩
          · obtain ⟨(e0 : ρ (.tmp 20) = Value.bool true), (e1 : ρ (.tmp 31) = Value.bool (!b0)), (e2 : ρ (Operand.const (Value.bool false)) = (Value.bool false)), -⟩ := hk; refine Par.val_k fun K hK => ?_; unfold Par.val
            (go_simp; exact hK _ _ ⟨Ext.refl _, rfl⟩)
          trivial
        intro a' w' inv
        have hX := inv.ext
        have q17 : a'.tmps.getD 17 undef = Value.int IntKind.i64 (i : Int) := inv.done 0 _ 17 rfl rfl rfl
        have q18 : a'.tmps.getD 18 undef = Value.int IntKind.i64 (b : Int) := inv.done 1 _ 18 rfl rfl rfl
        have q19 : a'.tmps.getD 19 undef = Value.bool true := inv.done 2 _ 19 rfl rfl rfl
        have q20 : a'.tmps.getD 20 undef = Value.bool true := inv.done 3 _ 20 rfl rfl rfl
        have q21 : a'.tmps.getD 21 undef = Value.slice (some ⟨g, 0, none⟩) n cap := inv.done 4 _ 21 rfl rfl rfl
        have q22 : a'.tmps.getD 22 undef = Value.int IntKind.i64 (i : Int) := inv.done 5 _ 22 rfl rfl rfl
        have q23 : a'.tmps.getD 23 undef = Value.pointer (some ⟨g, i, none⟩) := inv.done 6 _ 23 rfl rfl rfl
        have q24 : a'.tmps.getD 24 undef = uv zi := inv.done 7 _ 24 rfl rfl rfl
        have q25 : a'.tmps.getD 25 undef = Value.slice (some ⟨g, 0, none⟩) n cap := inv.done 8 _ 25 rfl rfl rfl
        have q26 : a'.tmps.getD 26 undef = Value.int IntKind.i64 (i : Int) := inv.done 9 _ 26 rfl rfl rfl
        have q27 : a'.tmps.getD 27 undef = Value.int IntKind.i64 (q : Int) := inv.done 10 _ 27 rfl rfl rfl
        have q28 : a'.tmps.getD 28 undef = Value.pointer (some ⟨g, q, none⟩) := inv.done 11 _ 28 rfl rfl rfl
        have q29 : a'.tmps.getD 29 undef = uv zq := inv.done 12 _ 29 rfl rfl rfl
        have q30 : a'.tmps.getD 30 undef = Value.bool b0 := inv.done 13 _ 30 rfl rfl rfl
        have q31 : a'.tmps.getD 31 undef = Value.bool (!b0) := inv.done 14 _ 31 rfl rfl rfl
        have q32 : a'.tmps.getD 32 undef = Value.bool (!b0) := inv.done 15 _ 32 rfl rfl rfl
        clear inv
        simp only [List.filterMap_cons, List.filterMap_nil, Par.putAll, Act.put, List.setIfInBounds_toArray, List.set_cons_succ, List.set_cons_zero, q17, q18, q19, q20, q21, q22, q23, q24, q25, q26, q27, q28, q29, q30, q31, q32]
        clear q17 q18 q19 q20 q21 q22 q23 q24 q25 q26 q27 q28 q29 q30 q31 q32
        clear a'
        have HF2 := hid (HF.out.trans (Ext.fr hX))
        have HR2 := hid (RA.ext hX HR.out)
        clear hX HF HR
        have HF := HF2
        have HR := HR2
        clear HF2 HR2
        cases b0
        case true =>
         have HO2 : Hid (scanSorted ltU d b i0 = i) := hid (by have := HO.out; rw [HIN.out] at this; simpa using this.symm)
         go_wp2
         go_meet
         case rel => exact ⟨i, hi1, hi2, rfl, HR, HO2, HF⟩
        case false =>
         have HO2 : Hid (scanSorted ltU d b (i + 1) = scanSorted ltU d b i0) := hid (by have := HO.out; rw [HIN.out] at this; simpa using this)
         go_wp2
         go_roundw
         case rel => exact ⟨i + 1, by omega, by omega, by first | rfl | go_num, HR, HO2, HF⟩
         case measure => simp [intOf] <;> omega
      · have hcm : (i < b) = False := by simp; omega
        go_wp2_with fail
        refine Par.wp_region_par (l := [_, _, _, _, _, _, _, _, _, _, _, _, _, _, _, _]) rfl Ext (Par.VL [Par.EQ (Value.int IntKind.i64 (i : Int)), Par.EQ (Value.int IntKind.i64 (b : Int)), Par.EQ (Value.bool false), Par.EQ (Value.bool false), Par.EQ (undef), Par.EQ (undef), Par.EQ (undef), Par.EQ (undef), Par.EQ (undef), Par.EQ (undef), Par.EQ (undef), Par.EQ (undef), Par.EQ (undef), Par.EQ (undef), Par.EQ (undef), Par.EQ (Value.bool false)]) (by kernel_rfl) Ext.refl (fun _ _ _ h1 h2 => Ext.trans h1 h2) (Ext.draw _) (Par.VL_stab ?_) ?_ ?_
        · simp only [List.forall_mem_cons, List.not_mem_nil, false_implies, implies_true, and_true]
          refine ⟨fun _ _ _ _ h => h, fun _ _ _ _ h => h, fun _ _ _ _ h => h, fun _ _ _ _ h => h, fun _ _ _ _ h => h, fun _ _ _ _ h => h, fun _ _ _ _ h => h, fun _ _ _ _ h => h, fun _ _ _ _ h => h, fun _ _ _ _ h => h, fun _ _ _ _ h => h, fun _ _ _ _ h => h, fun _ _ _ _ h => h, fun _ _ _ _ h => h, fun _ _ _ _ h => h, fun _ _ _ _ h => h⟩
        · refine ⟨⟨fun _ _ => trivial, fun ρ w' hX hG hk => ?_⟩, ?_⟩
          · exact Par.val_of_run rfl ⟨Ext.refl _, hk.1⟩
          refine ⟨⟨fun _ _ => trivial, fun ρ w' hX hG hk => ?_⟩, ?_⟩
          · exact Par.val_of_run rfl ⟨Ext.refl _, hk.1⟩
          refine ⟨⟨fun _ _ => trivial, fun ρ w' hX hG hk => ?_⟩, ?_⟩
          · obtain ⟨(e0 : ρ (.tmp 17) = Value.int IntKind.i64 (i : Int)), (e1 : ρ (.tmp 18) = Value.int IntKind.i64 (b : Int)), -⟩ := hk; refine Par.val_k fun K hK => ?_; unfold Par.val
            (go_simp; exact hK _ _ ⟨Ext.refl _, rfl⟩)
          refine ⟨⟨fun _ _ => trivial, fun ρ w' hX hG hk => ?_⟩, ?_⟩
          · exact Par.val_of_run rfl ⟨Ext.refl _, hk.1⟩
          refine ⟨⟨fun _ _ u hu => .inr rfl, fun ρ w' hX hG hk => ?_⟩, ?_⟩
          · cases hG
          refine ⟨⟨fun _ _ u hu => .inr rfl, fun ρ w' hX hG hk => ?_⟩, ?_⟩
          · cases hG
          refine ⟨⟨fun _ _ u hu => .inr rfl, fun ρ w' hX hG hk => ?_⟩, ?_⟩
          · cases hG
          refine ⟨⟨fun _ _ u hu => .inr rfl, fun ρ w' hX hG hk => ?_⟩, ?_⟩
          · cases hG
          refine ⟨⟨fun _ _ u hu => .inr rfl, fun ρ w' hX hG hk => ?_⟩, ?_⟩
          · cases hG
          refine ⟨⟨fun _ _ u hu => .inr rfl, fun ρ w' hX hG hk => ?_⟩, ?_⟩
          · cases hG
          refine ⟨⟨fun _ _ u hu => .inr rfl, fun ρ w' hX hG hk => ?_⟩, ?_⟩
          · cases hG
          refine ⟨⟨fun _ _ u hu => .inr rfl, fun ρ w' hX hG hk => ?_⟩, ?_⟩
          · cases hG
          refine ⟨⟨fun _ _ u hu => .inr rfl, fun ρ w' hX hG hk => ?_⟩, ?_⟩
          · cases hG
          refine ⟨⟨fun _ _ u hu => .inr rfl, fun ρ w' hX hG hk => ?_⟩, ?_⟩
          · cases hG
          refine ⟨⟨fun _ _ u hu => .inr rfl, fun ρ w' hX hG hk => ?_⟩, ?_⟩
          · cases hG
          refine ⟨⟨fun _ _ => trivial, fun ρ w' hX hG hk => ?_⟩, ?_⟩
          · obtain ⟨(e0 : ρ (.tmp 20) = Value.bool false), (e1 : ρ (.tmp 31) = undef), (e2 : ρ (Operand.const (Value.bool false)) = (Value.bool false)), -⟩ := hk; refine Par.val_k fun K hK => ?_; unfold Par.val
            (go_simp; exact hK _ _ ⟨Ext.refl _, rfl⟩)
          trivial
        intro a' w' inv
        have hX := inv.ext
        have q17 : a'.tmps.getD 17 undef = Value.int IntKind.i64 (i : Int) := inv.done 0 _ 17 rfl rfl rfl
        have q18 : a'.tmps.getD 18 undef = Value.int IntKind.i64 (b : Int) := inv.done 1 _ 18 rfl rfl rfl
        have q19 : a'.tmps.getD 19 undef = Value.bool false := inv.done 2 _ 19 rfl rfl rfl
        have q20 : a'.tmps.getD 20 undef = Value.bool false := inv.done 3 _ 20 rfl rfl rfl
        have q21 : a'.tmps.getD 21 undef = undef := inv.done 4 _ 21 rfl rfl rfl
        have q22 : a'.tmps.getD 22 undef = undef := inv.done 5 _ 22 rfl rfl rfl
        have q23 : a'.tmps.getD 23 undef = undef := inv.done 6 _ 23 rfl rfl rfl
        have q24 : a'.tmps.getD 24 undef = undef := inv.done 7 _ 24 rfl rfl rfl
        have q25 : a'.tmps.getD 25 undef = undef := inv.done 8 _ 25 rfl rfl rfl
        have q26 : a'.tmps.getD 26 undef = undef := inv.done 9 _ 26 rfl rfl rfl
        have q27 : a'.tmps.getD 27 undef = undef := inv.done 10 _ 27 rfl rfl rfl
        have q28 : a'.tmps.getD 28 undef = undef := inv.done 11 _ 28 rfl rfl rfl
        have q29 : a'.tmps.getD 29 undef = undef := inv.done 12 _ 29 rfl rfl rfl
        have q30 : a'.tmps.getD 30 undef = undef := inv.done 13 _ 30 rfl rfl rfl
        have q31 : a'.tmps.getD 31 undef = undef := inv.done 14 _ 31 rfl rfl rfl
        have q32 : a'.tmps.getD 32 undef = Value.bool false := inv.done 15 _ 32 rfl rfl rfl
        clear inv
        simp only [List.filterMap_cons, List.filterMap_nil, Par.putAll, Act.put, List.setIfInBounds_toArray, List.set_cons_succ, List.set_cons_zero, q17, q18, q19, q20, q21, q22, q23, q24, q25, q26, q27, q28, q29, q30, q31, q32]
        clear q17 q18 q19 q20 q21 q22 q23 q24 q25 q26 q27 q28 q29 q30 q31 q32
        clear a'
        have HF2 := hid (HF.out.trans (Ext.fr hX))
        have HR2 := hid (RA.ext hX HR.out)
        clear hX HF HR
        have HF := HF2
        have HR := HR2
        clear HF2 HR2
        have HO2 := hid (HO.out.symm.trans (scanSorted_stop d b i hib))
        clear hcm
        go_wp2
        go_meet
        case rel => exact ⟨i, hi1, hi2, rfl, HR, HO2, HF⟩
    case rest =>
     clear HR HF
     obtain ⟨I, hI1, hI2, rfl, HR, HI, HF⟩ := hcut
     obtain ⟨Q, hQ⟩ : ∃ Q, Q + 1 = I := ⟨I - 1, by omega⟩
     have HEQ := hid (pins_unf a b s i0 d HI.out hQ)
     have HQ := hid hQ
     clear HI hQ
     rcases Nat.lt_or_ge I b with hIb | hIb
     · have hne : (I = b) = False := by simp; omega
       have hneb : ((I : Int) == (b : Int)) = false := by simp; omega
       rcases Nat.lt_or_ge (b - a) 50 with h50 | h50
       · have HPP : Hid (D = (d, false)) := hid (by rw [← HL.out, HEQ.out, if_neg (by omega), if_pos h50])
         have hba : ((b - a : Nat) : Int) < 50 := by omega
         go_wp2
         go_returns
         exact ⟨by rw [HPP.out]; rfl, by rw [HPP.out]; exact HR.out, HF.out⟩
       · have hba2 : (b - a < 50) = False := by simp; omega
         have hIn : I < n := by omega
         have hIn2 : (I : Int) < n := by omega
         have hQn : Q < n := by have := HQ.out; omega
         have hQn2 : (Q : Int) < n := by omega
         have hQb : Q < b := by have := HQ.out; omega
         have hwQ : IntKind.i64.wrap ((I : Int) - 1) = (Q : Int) := i64v _ (by have := HQ.out; omega) (by omega)
         have hwI : IntKind.i64.wrap ((I : Int) + 1) = ((I + 1 : Nat) : Int) := i64v _ (by omega) (by omega)
         have hwIa : IntKind.i64.wrap ((I : Int) - (a : Int)) = ((I - a : Nat) : Int) := i64v _ (by omega) (by omega)
         have hwbI : IntKind.i64.wrap ((b : Int) - (I : Int)) = ((b - I : Nat) : Int) := i64v _ (by omega) (by omega)
         obtain ⟨zI, HzI, HCzI⟩ := cellV (B := B) (g := g) (n := n) (cap := cap) d I (by omega)
         obtain ⟨zQ, HzQ, HCzQ⟩ := cellV (B := B) (g := g) (n := n) (cap := cap) d Q (by omega)
         have HPL : Hid (D = partialIns ltU a b s I (if b - I ≥ 2 then shiftUp ltU b (I + 1) (if I - a ≥ 2 then shiftDown ltU Q (swp d I Q) else swp d I Q) else (if I - a ≥ 2 then shiftDown ltU Q (swp d I Q) else swp d I Q))) := hid (by rw [← HL.out, HEQ.out, if_neg (by omega), if_neg (by omega)])
         clear HL HEQ
         go_wp2_with fail
         refine ParE.wp_region_e (l := [_, _, _, _, _, _, _, _, _, _, _, _, _, _, _, _, _, _]) rfl (Rg.Ch [15, 17] [] (SwV _ B g n cap I Q zI zQ d)) (ParC.VC [ParC.EQ (Value.slice (some ⟨g, 0, none⟩) n cap), ParC.EQ (Value.int IntKind.i64 (I : Int)), ParC.EQ (Value.slice (some ⟨g, 0, none⟩) n cap), ParC.EQ (Value.int IntKind.i64 (I : Int)), ParC.EQ (Value.int IntKind.i64 (Q : Int)), ParC.EQ (Value.slice (some ⟨g, 0, none⟩) n cap), ParC.EQ (Value.int IntKind.i64 (I : Int)), ParC.EQ (Value.int IntKind.i64 (Q : Int)), ParC.EQ (Value.pointer (some ⟨g, Q, none⟩)), ParC.EQ (uv zQ), ParC.EQ (Value.slice (some ⟨g, 0, none⟩) n cap), ParC.EQ (Value.int IntKind.i64 (I : Int)), ParC.EQ (Value.pointer (some ⟨g, I, none⟩)), ParC.EQ (uv zI), ParC.EQ (Value.pointer (some ⟨g, I, none⟩)), fun _ => True, ParC.EQ (Value.pointer (some ⟨g, Q, none⟩)), fun _ => True]) (by kernel_rfl) (by kernel_rfl) (Rg.Ch.start ⟨fun _ => Ext.draw _, trivial⟩) ?_ ?_
         · refine ⟨fun L ρ w' hR hC hL hd hk => ?_, ?_⟩
           · exact Par.val_of_run rfl ⟨hR.other (by decide), hk.1⟩
           refine ⟨fun L ρ w' hR hC hL hd hk => ?_, ?_⟩
           · exact Par.val_of_run rfl ⟨hR.other (by decide), hk.1⟩
           refine ⟨fun L ρ w' hR hC hL hd hk => ?_, ?_⟩
           · exact Par.val_of_run rfl ⟨hR.other (by decide), hk.1⟩
           refine ⟨fun L ρ w' hR hC hL hd hk => ?_, ?_⟩
           · exact Par.val_of_run rfl ⟨hR.other (by decide), hk.1⟩
           refine ⟨fun L ρ w' hR hC hL hd hk => ?_, ?_⟩
           · obtain ⟨(e0 : ρ (.tmp 45) = Value.int IntKind.i64 (I : Int)), (e1 : ρ (Operand.const (Value.int IntKind.i64 1)) = (Value.int IntKind.i64 1)), -⟩ := hk; refine Par.val_k fun K hK => ?_; unfold Par.val
             (go_simp; exact hK _ _ ⟨hR.other (by decide), rfl⟩)
           refine ⟨fun L ρ w' hR hC hL hd hk => ?_, ?_⟩
           · exact Par.val_of_run rfl ⟨hR.other (by decide), hk.1⟩
           refine ⟨fun L ρ w' hR hC hL hd hk => ?_, ?_⟩
           · exact Par.val_of_run rfl ⟨hR.other (by decide), hk.1⟩
           refine ⟨fun L ρ w' hR hC hL hd hk => ?_, ?_⟩
           · obtain ⟨(e0 : ρ (.tmp 48) = Value.int IntKind.i64 (I : Int)), (e1 : ρ (Operand.const (Value.int IntKind.i64 1)) = (Value.int IntKind.i64 1)), -⟩ := hk; refine Par.val_k fun K hK => ?_; unfold Par.val
             (go_simp; exact hK _ _ ⟨hR.other (by decide), rfl⟩)
           refine ⟨fun L ρ w' hR hC hL hd hk => ?_, ?_⟩
           · obtain ⟨(e0 : ρ (.tmp 47) = Value.slice (some ⟨g, 0, none⟩) n cap), (e1 : ρ (.tmp 49) = Value.int IntKind.i64 (Q : Int)), -⟩ := hk; refine Par.val_k fun K hK => ?_; unfold Par.val
             (go_simp; exact hK _ _ ⟨hR.other (by decide), rfl⟩)
           refine ⟨fun L ρ w' hR hC hL hd hk => ?_, ?_⟩
           · obtain ⟨(e0 : ρ (.tmp 50) = Value.pointer (some ⟨g, Q, none⟩)), -⟩ := hk; refine Par.val_k fun K hK => ?_; unfold Par.val
             (obtain ⟨ii, hii, hq⟩ := hR.some 0 rfl (hC.notyet 15 9 hL (by kernel_rfl)); have cc := HCzQ.out _ (RA.ext (hq.1 (by omega)) HR.out); go_simp; exact hK _ _ ⟨hR.other (by decide), rfl⟩)
           refine ⟨fun L ρ w' hR hC hL hd hk => ?_, ?_⟩
           · exact Par.val_of_run rfl ⟨hR.other (by decide), hk.1⟩
           refine ⟨fun L ρ w' hR hC hL hd hk => ?_, ?_⟩
           · exact Par.val_of_run rfl ⟨hR.other (by decide), hk.1⟩
           refine ⟨fun L ρ w' hR hC hL hd hk => ?_, ?_⟩
           · obtain ⟨(e0 : ρ (.tmp 52) = Value.slice (some ⟨g, 0, none⟩) n cap), (e1 : ρ (.tmp 53) = Value.int IntKind.i64 (I : Int)), -⟩ := hk; refine Par.val_k fun K hK => ?_; unfold Par.val
             (go_simp; exact hK _ _ ⟨hR.other (by decide), rfl⟩)
           refine ⟨fun L ρ w' hR hC hL hd hk => ?_, ?_⟩
           · obtain ⟨(e0 : ρ (.tmp 54) = Value.pointer (some ⟨g, I, none⟩)), -⟩ := hk; refine Par.val_k fun K hK => ?_; unfold Par.val
             (obtain ⟨ii, hii, hq⟩ := hR.some 0 rfl (hC.notyet 15 13 hL (by kernel_rfl)); have cc := HCzI.out _ (RA.ext (hq.1 (by omega)) HR.out); go_simp; exact hK _ _ ⟨hR.other (by decide), rfl⟩)
           refine ⟨fun L ρ w' hR hC hL hd hk => ?_, ?_⟩
           · obtain ⟨(e0 : ρ (.tmp 42) = Value.slice (some ⟨g, 0, none⟩) n cap), (e1 : ρ (.tmp 43) = Value.int IntKind.i64 (I : Int)), -⟩ := hk; refine Par.val_k fun K hK => ?_; unfold Par.val
             (go_simp; exact hK _ _ ⟨hR.other (by decide), rfl⟩)
           refine ⟨fun L ρ w' hR hC hL hd hk => ?_, ?_⟩
           · obtain ⟨(e0 : ρ (.tmp 56) = Value.pointer (some ⟨g, I, none⟩)), (e1 : ρ (.tmp 51) = uv zQ), -⟩ := hk; refine Par.val_k fun K hK => ?_; unfold Par.val
             (obtain ⟨hq, hs⟩ := hR.go 0 rfl hL (.inl rfl) (by decide); have hx := hq.1 (by decide); have hrow := RA.ext hx HR.out; obtain ⟨cc, ff⟩ := hrow.at (j := I) (by omega); obtain ⟨hset, hfs⟩ := hrow.set I zQ; have HSET := hid hset; have HFS := hid hfs; clear hset hfs hrow; go_simp; exact hK _ _ ⟨hs none _ _ ⟨fun h => absurd h (by decide), HSET.out, (Ext.fr hx).trans HFS.out⟩, trivial⟩)
           refine ⟨fun L ρ w' hR hC hL hd hk => ?_, ?_⟩
           · obtain ⟨(e0 : ρ (.tmp 44) = Value.slice (some ⟨g, 0, none⟩) n cap), (e1 : ρ (.tmp 46) = Value.int IntKind.i64 (Q : Int)), -⟩ := hk; refine Par.val_k fun K hK => ?_; unfold Par.val
             (go_simp; exact hK _ _ ⟨hR.other (by decide), rfl⟩)
           refine ⟨fun L ρ w' hR hC hL hd hk => ?_, ?_⟩
           · obtain ⟨(e0 : ρ (.tmp 57) = Value.pointer (some ⟨g, Q, none⟩)), (e1 : ρ (.tmp 55) = uv zI), -⟩ := hk; refine Par.val_k fun K hK => ?_; unfold Par.val
             (obtain ⟨hq, hs⟩ := hR.go 1 rfl hL (.inr ⟨15, rfl, hC.before 15 (i := 17) rfl hd (by kernel_rfl)⟩) (by decide); obtain ⟨hrow, hfr⟩ := hq.2; obtain ⟨cc, ff⟩ := hrow.at (j := Q) (by omega); obtain ⟨hset, hfs⟩ := hrow.set Q zI; have HSET := hid hset; have HFS := hid hfs; have HFR := hid hfr; clear hset hfs hrow hfr; go_simp; exact hK _ _ ⟨hs none _ _ ⟨fun h => absurd h (by decide), HSET.out, HFR.out.trans HFS.out⟩, trivial⟩)
           trivial
         intro a' w' inv hR
         have q42 : a'.tmps.getD 42 undef = Value.slice (some ⟨g, 0, none⟩) n cap := inv.done 0 _ 42 rfl rfl rfl
         have q43 : a'.tmps.getD 43 undef = Value.int IntKind.i64 (I : Int) := inv.done 1 _ 43 rfl rfl rfl
         have q44 : a'.tmps.getD 44 undef = Value.slice (some ⟨g, 0, none⟩) n cap := inv.done 2 _ 44 rfl rfl rfl
         have q45 : a'.tmps.getD 45 undef = Value.int IntKind.i64 (I : Int) := inv.done 3 _ 45 rfl rfl rfl
         have q46 : a'.tmps.getD 46 undef = Value.int IntKind.i64 (Q : Int) := inv.done 4 _ 46 rfl rfl rfl
         have q47 : a'.tmps.getD 47 undef = Value.slice (some ⟨g, 0, none⟩) n cap := inv.done 5 _ 47 rfl rfl rfl
         have q48 : a'.tmps.getD 48 undef = Value.int IntKind.i64 (I : Int) := inv.done 6 _ 48 rfl rfl rfl
         have q49 : a'.tmps.getD 49 undef = Value.int IntKind.i64 (Q : Int) := inv.done 7 _ 49 rfl rfl rfl
         have q50 : a'.tmps.getD 50 undef = Value.pointer (some ⟨g, Q, none⟩) := inv.done 8 _ 50 rfl rfl rfl
         have q51 : a'.tmps.getD 51 undef = uv zQ := inv.done 9 _ 51 rfl rfl rfl
         have q52 : a'.tmps.getD 52 undef = Value.slice (some ⟨g, 0, none⟩) n cap := inv.done 10 _ 52 rfl rfl rfl
         have q53 : a'.tmps.getD 53 undef = Value.int IntKind.i64 (I : Int) := inv.done 11 _ 53 rfl rfl rfl
         have q54 : a'.tmps.getD 54 undef = Value.pointer (some ⟨g, I, none⟩) := inv.done 12 _ 54 rfl rfl rfl
         have q55 : a'.tmps.getD 55 undef = uv zI := inv.done 13 _ 55 rfl rfl rfl
         have q56 : a'.tmps.getD 56 undef = Value.pointer (some ⟨g, I, none⟩) := inv.done 14 _ 56 rfl rfl rfl
         have q57 : a'.tmps.getD 57 undef = Value.pointer (some ⟨g, Q, none⟩) := inv.done 16 _ 57 rfl rfl rfl
         clear inv
         simp only [List.filterMap_cons, List.filterMap_nil, Par.putAll, Act.put, List.setIfInBounds_toArray, List.set_cons_succ, List.set_cons_zero, q42, q43, q44, q45, q46, q47, q48, q49, q50, q51, q52, q53, q54, q55, q56, q57]
         clear q42 q43 q44 q45 q46 q47 q48 q49 q50 q51 q52 q53 q54 q55 q56 q57
         obtain ⟨-, hrd, hf⟩ := Rg.Ch.fin hR (by decide) 2 rfl; have HRD := hid hrd; have HF4 := hid hf; clear hrd hf hR
         try clear a'
         have HR3 := hid (RA.swp HzI HzQ HRD.out)
         have HF3 := hid (HF.out.trans HF4.out)
         clear HRD HF4 HR HF
         have HR := HR3
         have HF := HF3
         clear HR3 HF3
         obtain ⟨d1, he⟩ : ∃ e, e = swp d I Q := ⟨_, rfl⟩
         rw [← he] at HR HPL
         clear he HzI HzQ HCzI HCzQ
         go_upto_if 61 with fail
         go_cut [9] from 13 to 132 (fun _ wx => Hid (RA wx B g n cap (if I - a ≥ 2 then shiftDown ltU Q d1 else d1)) ∧ Hid (Fr [g] w wx))
         case first =>
          rcases Nat.lt_or_ge (I - a) 2 with h2 | h2
          · have hc2 : (2 ≤ I - a) = False := by simp; omega
            have HR2 : Hid (RA _ B g n cap (if I - a ≥ 2 then shiftDown ltU Q d1 else d1)) := hid (by rw [if_neg (by omega)]; exact HR.out)
            go_wp2
            go_meet
            case rel => exact ⟨HR2, HF⟩
          · have hd61 : decide ((2 : Int) ≤ ((I - a : Nat) : Int)) = true := by simp; omega
            rw [hd61]
            have HG : Hid ((if I - a ≥ 2 then shiftDown ltU Q d1 else d1) = shiftDown ltU Q d1) := hid (by rw [if_pos h2])
            obtain ⟨G, hG⟩ : ∃ G, (if I - a ≥ 2 then shiftDown ltU Q d1 else d1) = G := ⟨_, rfl⟩
            rw [hG] at HG
            have HG2 := hid hG
            clear hG
            go_wp2_with fail
            go_loopw [9] (fun jv wr => ∃ (j : Nat) (e : Array UInt64), j < b ∧ jv = .int .i64 (j : Int) ∧ Hid (RA wr B g n cap e) ∧ Hid (shiftDown ltU j e = G) ∧ Hid (Fr [g] w wr)) (fun jv _ => (intOf jv).toNat)
            case atStart => exact ⟨Q, d1, hQb, by first | rfl | go_num, HR, hid HG.out.symm, HF⟩
            case round =>
             clear HR HF HG
             obtain ⟨j, d, hjb, rfl, HR, HS, HF⟩ := hrel
             rcases Nat.eq_zero_or_pos j with rfl | hj0
             · have HS2 : Hid (d = G) := HS
               go_wp2
               go_meet
               case rel => exact ⟨hid (by have := HR.out; rw [HS2.out] at this; rw [HG2.out]; exact this), HF⟩
             · obtain ⟨q, hq⟩ : ∃ q, q + 1 = j := ⟨j - 1, by omega⟩
               have hj1 : 1 ≤ j := by omega
               have hj1i : (1 : Int) ≤ (j : Int) := by omega
               have hwq : IntKind.i64.wrap ((j : Int) - 1) = (q : Int) := i64v _ (by omega) (by omega)
               have hjn : j < n := by omega
               have hjn2 : (j : Int) < n := by omega
               have hqn : q < n := by omega
               have hqn2 : (q : Int) < n := by omega
               have hqb : q < b := by omega
               have hqj : q < j := by omega
               obtain ⟨zj, Hzj, HCzj⟩ := cellV (B := B) (g := g) (n := n) (cap := cap) d j (by omega)
               obtain ⟨zq, Hzq, HCzq⟩ := cellV (B := B) (g := g) (n := n) (cap := cap) d q (by omega)
               obtain ⟨b0, Hb0⟩ : ∃ b, Hid (ltU zj zq = b) := ⟨_, hid rfl⟩
               have HIN : Hid (shiftDown ltU j d = if b0 then shiftDown ltU q (swp d j q) else d) := hid (by rw [shiftDown_go j q hq d, Hzj.out, Hzq.out, Hb0.out])
               clear hq
               go_wp2_with fail
               refine Par.wp_region_par (l := [_, _, _, _, _, _, _, _, _, _, _]) rfl Ext (Par.VL [Par.EQ (Value.slice (some ⟨g, 0, none⟩) n cap), Par.EQ (Value.int IntKind.i64 (j : Int)), Par.EQ (Value.pointer (some ⟨g, j, none⟩)), Par.EQ (uv zj), Par.EQ (Value.slice (some ⟨g, 0, none⟩) n cap), Par.EQ (Value.int IntKind.i64 (j : Int)), Par.EQ (Value.int IntKind.i64 (q : Int)), Par.EQ (Value.pointer (some ⟨g, q, none⟩)), Par.EQ (uv zq), Par.EQ (Value.bool b0), Par.EQ (Value.bool (!b0))]) (by kernel_rfl) Ext.refl (fun _ _ _ h1 h2 => Ext.trans h1 h2) (Ext.draw _) (Par.VL_stab ?_) ?_ ?_
               · simp only [List.forall_mem_cons, List.not_mem_nil, false_implies, implies_true, and_true]
                 refine ⟨fun _ _ _ _ h => h, fun _ _ _ _ h => h, fun _ _ _ _ h => h, fun _ _ _ _ h => h, fun _ _ _ _ h => h, fun _ _ _ _ h => h, fun _ _ _ _ h => h, fun _ _ _ _ h => h, fun _ _ _ _ h => h, fun _ _ _ _ h => h, fun _ _ _ _ h => h⟩
               · refine ⟨⟨fun _ _ => trivial, fun ρ w' hX hG hk => ?_⟩, ?_⟩
                 · exact Par.val_of_run rfl ⟨Ext.refl _, hk.1⟩
                 refine ⟨⟨fun _ _ => trivial, fun ρ w' hX hG hk => ?_⟩, ?_⟩
                 · exact Par.val_of_run rfl ⟨Ext.refl _, hk.1⟩
                 refine ⟨⟨fun _ _ => trivial, fun ρ w' hX hG hk => ?_⟩, ?_⟩
                 · obtain ⟨(e0 : ρ (.tmp 68) = Value.slice (some ⟨g, 0, none⟩) n cap), (e1 : ρ (.tmp 69) = Value.int IntKind.i64 (j : Int)), -⟩ := hk; refine Par.val_k fun K hK => ?_; unfold Par.val
                   (go_simp; exact hK _ _ ⟨Ext.refl _, rfl⟩)
                 refine ⟨⟨fun _ _ => trivial, fun ρ w' hX hG hk => ?_⟩, ?_⟩
                 · obtain ⟨(e0 : ρ (.tmp 70) = Value.pointer (some ⟨g, j, none⟩)), -⟩ := hk; refine Par.val_k fun K hK => ?_; unfold Par.val
                   (have cc := HCzj.out _ (RA.ext hX HR.out); go_simp; exact hK _ _ ⟨Ext.refl _, rfl⟩)
                 refine ⟨⟨fun _ _ => trivial, fun ρ w' hX hG hk => ?_⟩, ?_⟩
                 · exact Par.val_of_run rfl ⟨Ext.refl _, hk.1⟩
                 refine ⟨⟨fun _ _ => trivial, fun ρ w' hX hG hk => ?_⟩, ?_⟩
                 · exact Par.val_of_run rfl ⟨Ext.refl _, hk.1⟩
                 refine ⟨⟨fun _ _ => trivial, fun ρ w' hX hG hk => ?_⟩, ?_⟩
                 · obtain ⟨(e0 : ρ (.tmp 73) = Value.int IntKind.i64 (j : Int)), (e1 : ρ (Operand.const (Value.int IntKind.i64 1)) = (Value.int IntKind.i64 1)), -⟩ := hk; refine Par.val_k fun K hK => ?_; unfold Par.val
                   (go_simp; exact hK _ _ ⟨Ext.refl _, rfl⟩)
                 refine ⟨⟨fun _ _ => trivial, fun ρ w' hX hG hk => ?_⟩, ?_⟩
                 · obtain ⟨(e0 : ρ (.tmp 72) = Value.slice (some ⟨g, 0, none⟩) n cap), (e1 : ρ (.tmp 74) = Value.int IntKind.i64 (q : Int)), -⟩ := hk; refine Par.val_k fun K hK => ?_; unfold Par.val
                   (go_simp; exact hK _ _ ⟨Ext.refl _, rfl⟩)
                 refine ⟨⟨fun _ _ => trivial, fun ρ w' hX hG hk => ?_⟩, ?_⟩
                 · obtain ⟨(e0 : ρ (.tmp 75) = Value.pointer (some ⟨g, q, none⟩)), -⟩ := hk; refine Par.val_k fun K hK => ?_; unfold Par.val
                   (have cc := HCzq.out _ (RA.ext hX HR.out); go_simp; exact hK _ _ ⟨Ext.refl _, rfl⟩)
                 refine ⟨⟨fun _ _ => trivial, fun ρ w' hX hG hk => ?_⟩, ?_⟩
                 · obtain ⟨e0, (e1 : ρ (.tmp 71) = uv zj), (e2 : ρ (.tmp 76) = uv zq), -⟩ := hk; refine Par.val_k fun K hK => ?_; unfold Par.val
                   refine Par.val_call Tryz.func121 (by kernel_rfl) rfl e0 ?_
                   simp only [List.map_toArray, List.map_cons, List.map_nil, e1, e2]
                   refine (lessU_any zj zq _).mono ?_
                   rintro e w2 ⟨rfl, rfl⟩
                   exact ⟨_, rfl, hK _ _ ⟨Ext.refl _, (congrArg Value.bool Hb0.out)⟩⟩
                 refine ⟨⟨fun _ _ => trivial, fun ρ w' hX hG hk => ?_⟩, ?_⟩
                 · obtain ⟨(e0 : ρ (.tmp 77) = Value.bool b0), -⟩ := hk; refine Par.val_k fun K hK => ?_; unfold Par.val
                   (go_simp; exact hK _ _ ⟨Ext.refl _, rfl⟩)
                 trivial
               intro a' w' inv
               have hX := inv.ext
               have q68 : a'.tmps.getD 68 undef = Value.slice (some ⟨g, 0, none⟩) n cap := inv.done 0 _ 68 rfl rfl rfl
               have q69 : a'.tmps.getD 69 undef = Value.int IntKind.i64 (j : Int) := inv.done 1 _ 69 rfl rfl rfl
               have q70 : a'.tmps.getD 70 undef = Value.pointer (some ⟨g, j, none⟩) := inv.done 2 _ 70 rfl rfl rfl
               have q71 : a'.tmps.getD 71 undef = uv zj := inv.done 3 _ 71 rfl rfl rfl
               have q72 : a'.tmps.getD 72 undef = Value.slice (some ⟨g, 0, none⟩) n cap := inv.done 4 _ 72 rfl rfl rfl
               have q73 : a'.tmps.getD 73 undef = Value.int IntKind.i64 (j : Int) := inv.done 5 _ 73 rfl rfl rfl
               have q74 : a'.tmps.getD 74 undef = Value.int IntKind.i64 (q : Int) := inv.done 6 _ 74 rfl rfl rfl
               have q75 : a'.tmps.getD 75 undef = Value.pointer (some ⟨g, q, none⟩) := inv.done 7 _ 75 rfl rfl rfl
               have q76 : a'.tmps.getD 76 undef = uv zq := inv.done 8 _ 76 rfl rfl rfl
               have q77 : a'.tmps.getD 77 undef = Value.bool b0 := inv.done 9 _ 77 rfl rfl rfl
               have q78 : a'.tmps.getD 78 undef = Value.bool (!b0) := inv.done 10 _ 78 rfl rfl rfl
               clear inv
               simp only [List.filterMap_cons, List.filterMap_nil, Par.putAll, Act.put, List.setIfInBounds_toArray, List.set_cons_succ, List.set_cons_zero, q68, q69, q70, q71, q72, q73, q74, q75, q76, q77, q78]
               clear q68 q69 q70 q71 q72 q73 q74 q75 q76 q77 q78
               clear a'
               have HF2 := hid (HF.out.trans (Ext.fr hX))
               have HR2 := hid (RA.ext hX HR.out)
               clear hX HF HR
               have HF := HF2
               have HR := HR2
               clear HF2 HR2
               cases b0
               case false =>
                have HS2 : Hid (d = G) := hid (by have := HS.out; rw [HIN.out] at this; simpa using this)
                go_wp2
                go_meet
                case rel => exact ⟨hid (by have := HR.out; rw [HS2.out] at this; rw [HG2.out]; exact this), HF⟩
               case true =>
                have HS2 : Hid (shiftDown ltU q (swp d j q) = G) := hid (by have := HS.out; rw [HIN.out] at this; simpa using this)
                go_wp2_with fail
                refine ParE.wp_region_e (l := [_, _, _, _, _, _, _, _, _, _, _, _, _, _, _, _, _, _]) rfl (Rg.Ch [15, 17] [] (SwV _ B g n cap j q zj zq d)) (ParC.VC [ParC.EQ (Value.slice (some ⟨g, 0, none⟩) n cap), ParC.EQ (Value.int IntKind.i64 (j : Int)), ParC.EQ (Value.slice (some ⟨g, 0, none⟩) n cap), ParC.EQ (Value.int IntKind.i64 (j : Int)), ParC.EQ (Value.int IntKind.i64 (q : Int)), ParC.EQ (Value.slice (some ⟨g, 0, none⟩) n cap), ParC.EQ (Value.int IntKind.i64 (j : Int)), ParC.EQ (Value.int IntKind.i64 (q : Int)), ParC.EQ (Value.pointer (some ⟨g, q, none⟩)), ParC.EQ (uv zq), ParC.EQ (Value.slice (some ⟨g, 0, none⟩) n cap), ParC.EQ (Value.int IntKind.i64 (j : Int)), ParC.EQ (Value.pointer (some ⟨g, j, none⟩)), ParC.EQ (uv zj), ParC.EQ (Value.pointer (some ⟨g, j, none⟩)), fun _ => True, ParC.EQ (Value.pointer (some ⟨g, q, none⟩)), fun _ => True]) (by kernel_rfl) (by kernel_rfl) (Rg.Ch.start ⟨fun _ => Ext.draw _, trivial⟩) ?_ ?_
                · refine ⟨fun L ρ w' hR hC hL hd hk => ?_, ?_⟩
                  · exact Par.val_of_run rfl ⟨hR.other (by decide), hk.1⟩
                  refine ⟨fun L ρ w' hR hC hL hd hk => ?_, ?_⟩
                  · exact Par.val_of_run rfl ⟨hR.other (by decide), hk.1⟩
                  refine ⟨fun L ρ w' hR hC hL hd hk => ?_, ?_⟩
                  · exact Par.val_of_run rfl ⟨hR.other (by decide), hk.1⟩
                  refine ⟨fun L ρ w' hR hC hL hd hk => ?_, ?_⟩
                  · exact Par.val_of_run rfl ⟨hR.other (by decide), hk.1⟩
                  refine ⟨fun L ρ w' hR hC hL hd hk => ?_, ?_⟩
                  · obtain ⟨(e0 : ρ (.tmp 82) = Value.int IntKind.i64 (j : Int)), (e1 : ρ (Operand.const (Value.int IntKind.i64 1)) = (Value.int IntKind.i64 1)), -⟩ := hk; refine Par.val_k fun K hK => ?_; unfold Par.val
                    (go_simp; exact hK _ _ ⟨hR.other (by decide), rfl⟩)
                  refine ⟨fun L ρ w' hR hC hL hd hk => ?_, ?_⟩
                  · exact Par.val_of_run rfl ⟨hR.other (by decide), hk.1⟩
                  refine ⟨fun L ρ w' hR hC hL hd hk => ?_, ?_⟩
                  · exact Par.val_of_run rfl ⟨hR.other (by decide), hk.1⟩
                  refine ⟨fun L ρ w' hR hC hL hd hk => ?_, ?_⟩
                  · obtain ⟨(e0 : ρ (.tmp 85) = Value.int IntKind.i64 (j : Int)), (e1 : ρ (Operand.const (Value.int IntKind.i64 1)) = (Value.int IntKind.i64 1)), -⟩ := hk; refine Par.val_k fun K hK => ?_; unfold Par.val
                    (go_simp; exact hK _ _ ⟨hR.other (by decide), rfl⟩)
                  refine ⟨fun L ρ w' hR hC hL hd hk => ?_, ?_⟩
                  · obtain ⟨(e0 : ρ (.tmp 84) = Value.slice (some ⟨g, 0, none⟩) n cap), (e1 : ρ (.tmp 86) = Value.int IntKind.i64 (q : Int)), -⟩ := hk; refine Par.val_k fun K hK => ?_; unfold Par.val
                    (go_simp; exact hK _ _ ⟨hR.other (by decide), rfl⟩)
                  refine ⟨fun L ρ w' hR hC hL hd hk => ?_, ?_⟩
                  · obtain ⟨(e0 : ρ (.tmp 87) = Value.pointer (some ⟨g, q, none⟩)), -⟩ := hk; refine Par.val_k fun K hK => ?_; unfold Par.val
                    (obtain ⟨ii, hii, hq⟩ := hR.some 0 rfl (hC.notyet 15 9 hL (by kernel_rfl)); have cc := HCzq.out _ (RA.ext (hq.1 (by omega)) HR.out); go_simp; exact hK _ _ ⟨hR.other (by decide), rfl⟩)
                  refine ⟨fun L ρ w' hR hC hL hd hk => ?_, ?_⟩
                  · exact Par.val_of_run rfl ⟨hR.other (by decide), hk.1⟩
                  refine ⟨fun L ρ w' hR hC hL hd hk => ?_, ?_⟩
                  · exact Par.val_of_run rfl ⟨hR.other (by decide), hk.1⟩
                  refine ⟨fun L ρ w' hR hC hL hd hk => ?_, ?_⟩
                  · obtain ⟨(e0 : ρ (.tmp 89) = Value.slice (some ⟨g, 0, none⟩) n cap), (e1 : ρ (.tmp 90) = Value.int IntKind.i64 (j : Int)), -⟩ := hk; refine Par.val_k fun K hK => ?_; unfold Par.val
                    (go_simp; exact hK _ _ ⟨hR.other (by decide), rfl⟩)
                  refine ⟨fun L ρ w' hR hC hL hd hk => ?_, ?_⟩
                  · obtain ⟨(e0 : ρ (.tmp 91) = Value.pointer (some ⟨g, j, none⟩)), -⟩ := hk; refine Par.val_k fun K hK => ?_; unfold Par.val
                    (obtain ⟨ii, hii, hq⟩ := hR.some 0 rfl (hC.notyet 15 13 hL (by kernel_rfl)); have cc := HCzj.out _ (RA.ext (hq.1 (by omega)) HR.out); go_simp; exact hK _ _ ⟨hR.other (by decide), rfl⟩)
                  refine ⟨fun L ρ w' hR hC hL hd hk => ?_, ?_⟩
                  · obtain ⟨(e0 : ρ (.tmp 79) = Value.slice (some ⟨g, 0, none⟩) n cap), (e1 : ρ (.tmp 80) = Value.int IntKind.i64 (j : Int)), -⟩ := hk; refine Par.val_k fun K hK => ?_; unfold Par.val
                    (go_simp; exact hK _ _ ⟨hR.other (by decide), rfl⟩)
                  refine ⟨fun L ρ w' hR hC hL hd hk => ?_, ?_⟩
                  · obtain ⟨(e0 : ρ (.tmp 93) = Value.pointer (some ⟨g, j, none⟩)), (e1 : ρ (.tmp 88) = uv zq), -⟩ := hk; refine Par.val_k fun K hK => ?_; unfold Par.val
                    (obtain ⟨hq, hs⟩ := hR.go 0 rfl hL (.inl rfl) (by decide); have hx := hq.1 (by decide); have hrow := RA.ext hx HR.out; obtain ⟨cc, ff⟩ := hrow.at (j := j) (by omega); obtain ⟨hset, hfs⟩ := hrow.set j zq; have HSET := hid hset; have HFS := hid hfs; clear hset hfs hrow; go_simp; exact hK _ _ ⟨hs none _ _ ⟨fun h => absurd h (by decide), HSET.out, (Ext.fr hx).trans HFS.out⟩, trivial⟩)
                  refine ⟨fun L ρ w' hR hC hL hd hk => ?_, ?_⟩
                  · obtain ⟨(e0 : ρ (.tmp 81) = Value.slice (some ⟨g, 0, none⟩) n cap), (e1 : ρ (.tmp 83) = Value.int IntKind.i64 (q : Int)), -⟩ := hk; refine Par.val_k fun K hK => ?_; unfold Par.val
                    (go_simp; exact hK _ _ ⟨hR.other (by decide), rfl⟩)
                  refine ⟨fun L ρ w' hR hC hL hd hk => ?_, ?_⟩
                  · obtain ⟨(e0 : ρ (.tmp 94) = Value.pointer (some ⟨g, q, none⟩)), (e1 : ρ (.tmp 92) = uv zj), -⟩ := hk; refine Par.val_k fun K hK => ?_; unfold Par.val
                    (obtain ⟨hq, hs⟩ := hR.go 1 rfl hL (.inr ⟨15, rfl, hC.before 15 (i := 17) rfl hd (by kernel_rfl)⟩) (by decide); obtain ⟨hrow, hfr⟩ := hq.2; obtain ⟨cc, ff⟩ := hrow.at (j := q) (by omega); obtain ⟨hset, hfs⟩ := hrow.set q zj; have HSET := hid hset; have HFS := hid hfs; have HFR := hid hfr; clear hset hfs hrow hfr; go_simp; exact hK _ _ ⟨hs none _ _ ⟨fun h => absurd h (by decide), HSET.out, HFR.out.trans HFS.out⟩, trivial⟩)
                  trivial
                intro a' w' inv hR
                have q79 : a'.tmps.getD 79 undef = Value.slice (some ⟨g, 0, none⟩) n cap := inv.done 0 _ 79 rfl rfl rfl
                have q80 : a'.tmps.getD 80 undef = Value.int IntKind.i64 (j : Int) := inv.done 1 _ 80 rfl rfl rfl
                have q81 : a'.tmps.getD 81 undef = Value.slice (some ⟨g, 0, none⟩) n cap := inv.done 2 _ 81 rfl rfl rfl
                have q82 : a'.tmps.getD 82 undef = Value.int IntKind.i64 (j : Int) := inv.done 3 _ 82 rfl rfl rfl
                have q83 : a'.tmps.getD 83 undef = Value.int IntKind.i64 (q : Int) := inv.done 4 _ 83 rfl rfl rfl
                have q84 : a'.tmps.getD 84 undef = Value.slice (some ⟨g, 0, none⟩) n cap := inv.done 5 _ 84 rfl rfl rfl
                have q85 : a'.tmps.getD 85 undef = Value.int IntKind.i64 (j : Int) := inv.done 6 _ 85 rfl rfl rfl
                have q86 : a'.tmps.getD 86 undef = Value.int IntKind.i64 (q : Int) := inv.done 7 _ 86 rfl rfl rfl
                have q87 : a'.tmps.getD 87 undef = Value.pointer (some ⟨g, q, none⟩) := inv.done 8 _ 87 rfl rfl rfl
                have q88 : a'.tmps.getD 88 undef = uv zq := inv.done 9 _ 88 rfl rfl rfl
                have q89 : a'.tmps.getD 89 undef = Value.slice (some ⟨g, 0, none⟩) n cap := inv.done 10 _ 89 rfl rfl rfl
                have q90 : a'.tmps.getD 90 undef = Value.int IntKind.i64 (j : Int) := inv.done 11 _ 90 rfl rfl rfl
                have q91 : a'.tmps.getD 91 undef = Value.pointer (some ⟨g, j, none⟩) := inv.done 12 _ 91 rfl rfl rfl
                have q92 : a'.tmps.getD 92 undef = uv zj := inv.done 13 _ 92 rfl rfl rfl
                have q93 : a'.tmps.getD 93 undef = Value.pointer (some ⟨g, j, none⟩) := inv.done 14 _ 93 rfl rfl rfl
                have q94 : a'.tmps.getD 94 undef = Value.pointer (some ⟨g, q, none⟩) := inv.done 16 _ 94 rfl rfl rfl
                clear inv
                simp only [List.filterMap_cons, List.filterMap_nil, Par.putAll, Act.put, List.setIfInBounds_toArray, List.set_cons_succ, List.set_cons_zero, q79, q80, q81, q82, q83, q84, q85, q86, q87, q88, q89, q90, q91, q92, q93, q94]
                clear q79 q80 q81 q82 q83 q84 q85 q86 q87 q88 q89 q90 q91 q92 q93 q94
                obtain ⟨-, hrd, hf⟩ := Rg.Ch.fin hR (by decide) 2 rfl; have HRD := hid hrd; have HF4 := hid hf; clear hrd hf hR
                try clear a'
                have HR3 := hid (RA.swp Hzj Hzq HRD.out)
                have HF3 := hid (HF.out.trans HF4.out)
                clear HRD HF4 HR HF
                have HR := HR3
                have HF := HF3
                clear HR3 HF3
                go_wp2
                go_roundw
                case rel => exact ⟨q, swp d j q, hqb, by first | rfl | go_num, HR, HS2, HF⟩
                case measure => simp [intOf] <;> omega
         case rest =>
          clear HR HF
          obtain ⟨HR, HF⟩ := hcut
          obtain ⟨d2, hd2⟩ : ∃ e, e = (if I - a ≥ 2 then shiftDown ltU Q d1 else d1) := ⟨_, rfl⟩
          rw [← hd2] at HR HPL
          clear hd2
          rcases Nat.lt_or_ge (b - I) 2 with h2 | h2
          · have hc2 : (2 ≤ b - I) = False := by simp; omega
            have HPL2 : Hid (partialIns ltU a b s I d2 = D) := hid (by rw [HPL.out, if_neg (by omega)])
            clear HPL
            go_wp2
            go_roundw
            case rel => exact ⟨I, s, t + 1, d2, hI1, hI2, by omega, by first | rfl | go_num, by first | rfl | go_num, HR, HPL2, HF⟩
            case measure => simp [intOf] <;> omega
          · have hd98 : decide ((2 : Int) ≤ ((b - I : Nat) : Int)) = true := by simp; omega
            obtain ⟨J0, hJ0⟩ : ∃ J0, J0 = I + 1 := ⟨_, rfl⟩
            obtain ⟨G, hG⟩ : ∃ G, shiftUp ltU b J0 d2 = G := ⟨_, rfl⟩
            have HPL2 : Hid (partialIns ltU a b s I G = D) := hid (by rw [HPL.out, if_pos h2, ← hJ0, hG])
            have HG := hid hG
            have HJ0 := hid hJ0
            have hJ0b : J0 ≤ b := by omega
            have hJ01 : 1 ≤ J0 := by omega
            clear hG hJ0 HPL
            go_wp2_with fail
            go_loopw [10] (fun jv wr => ∃ (j : Nat) (e : Array UInt64), 1 ≤ j ∧ j ≤ b ∧ jv = .int .i64 (j : Int) ∧ Hid (RA wr B g n cap e) ∧ Hid (shiftUp ltU b j e = G) ∧ Hid (Fr [g] w wr)) (fun jv _ => n + 1 - (intOf jv).toNat)
            case atStart => exact ⟨J0, d2, hJ01, hJ0b, by first | rfl | exact congrArg _ (by have := HJ0.out; omega) | go_num, HR, HG, HF⟩
            case round =>
             clear HR HF HG
             obtain ⟨j, d, hj1, hjb, rfl, HR, HS, HF⟩ := hrel
             rcases Nat.lt_or_ge j b with hjlt | hjge
             · obtain ⟨q, hq⟩ : ∃ q, q + 1 = j := ⟨j - 1, by omega⟩
               have hwq : IntKind.i64.wrap ((j : Int) - 1) = (q : Int) := i64v _ (by omega) (by omega)
               have hwj : IntKind.i64.wrap ((j : Int) + 1) = ((j + 1 : Nat) : Int) := i64v _ (by omega) (by omega)
               have hjn : j < n := by omega
               have hjn2 : (j : Int) < n := by omega
               have hqn : q < n := by omega
               have hqn2 : (q : Int) < n := by omega
               obtain ⟨zj, Hzj, HCzj⟩ := cellV (B := B) (g := g) (n := n) (cap := cap) d j (by omega)
               obtain ⟨zq, Hzq, HCzq⟩ := cellV (B := B) (g := g) (n := n) (cap := cap) d q (by omega)
               obtain ⟨b0, Hb0⟩ : ∃ b, Hid (ltU zj zq = b) := ⟨_, hid rfl⟩
               have HIN : Hid (shiftUp ltU b j d = if b0 then shiftUp ltU b (j + 1) (swp d j q) else d) := hid (by rw [shiftUp_go b j q hq hjlt d, Hzj.out, Hzq.out, Hb0.out])
               clear hq
               go_wp2_with fail
               refine Par.wp_region_par (l := [_, _, _, _, _, _, _, _, _, _, _]) rfl Ext (Par.VL [Par.EQ (Value.slice (some ⟨g, 0, none⟩) n cap), Par.EQ (Value.int IntKind.i64 (j : Int)), Par.EQ (Value.pointer (some ⟨g, j, none⟩)), Par.EQ (uv zj), Par.EQ (Value.slice (some ⟨g, 0, none⟩) n cap), Par.EQ (Value.int IntKind.i64 (j : Int)), Par.EQ (Value.int IntKind.i64 (q : Int)), Par.EQ (Value.pointer (some ⟨g, q, none⟩)), Par.EQ (uv zq), Par.EQ (Value.bool b0), Par.EQ (Value.bool (!b0))]) (by kernel_rfl) Ext.refl (fun _ _ _ h1 h2 => Ext.trans h1 h2) (Ext.draw _) (Par.VL_stab ?_) ?_ ?_
               · simp only [List.forall_mem_cons, List.not_mem_nil, false_implies, implies_true, and_true]
                 refine ⟨fun _ _ _ _ h => h, fun _ _ _ _ h => h, fun _ _ _ _ h => h, fun _ _ _ _ h => h, fun _ _ _ _ h => h, fun _ _ _ _ h => h, fun _ _ _ _ h => h, fun _ _ _ _ h => h, fun _ _ _ _ h => h, fun _ _ _ _ h => h, fun _ _ _ _ h => h⟩
               · refine ⟨⟨fun _ _ => trivial, fun ρ w' hX hG hk => ?_⟩, ?_⟩
                 · exact Par.val_of_run rfl ⟨Ext.refl _, hk.1⟩
                 refine ⟨⟨fun _ _ => trivial, fun ρ w' hX hG hk => ?_⟩, ?_⟩
                 · exact Par.val_of_run rfl ⟨Ext.refl _, hk.1⟩
                 refine ⟨⟨fun _ _ => trivial, fun ρ w' hX hG hk => ?_⟩, ?_⟩
                 · obtain ⟨(e0 : ρ (.tmp 106) = Value.slice (some ⟨g, 0, none⟩) n cap), (e1 : ρ (.tmp 107) = Value.int IntKind.i64 (j : Int)), -⟩ := hk; refine Par.val_k fun K hK => ?_; unfold Par.val
                   (go_simp; exact hK _ _ ⟨Ext.refl _, rfl⟩)
                 refine ⟨⟨fun _ _ => trivial, fun ρ w' hX hG hk => ?_⟩, ?_⟩
                 · obtain ⟨(e0 : ρ (.tmp 108) = Value.pointer (some ⟨g, j, none⟩)), -⟩ := hk; refine Par.val_k fun K hK => ?_; unfold Par.val
                   (have cc := HCzj.out _ (RA.ext hX HR.out); go_simp; exact hK _ _ ⟨Ext.refl _, rfl⟩)
                 refine ⟨⟨fun _ _ => trivial, fun ρ w' hX hG hk => ?_⟩, ?_⟩
                 · exact Par.val_of_run rfl ⟨Ext.refl _, hk.1⟩
                 refine ⟨⟨fun _ _ => trivial, fun ρ w' hX hG hk => ?_⟩, ?_⟩
                 · exact Par.val_of_run rfl ⟨Ext.refl _, hk.1⟩
                 refine ⟨⟨fun _ _ => trivial, fun ρ w' hX hG hk => ?_⟩, ?_⟩
                 · obtain ⟨(e0 : ρ (.tmp 111) = Value.int IntKind.i64 (j : Int)), (e1 : ρ (Operand.const (Value.int IntKind.i64 1)) = (Value.int IntKind.i64 1)), -⟩ := hk; refine Par.val_k fun K hK => ?_; unfold Par.val
                   (go_simp; exact hK _ _ ⟨Ext.refl _, rfl⟩)
                 refine ⟨⟨fun _ _ => trivial, fun ρ w' hX hG hk => ?_⟩, ?_⟩
                 · obtain ⟨(e0 : ρ (.tmp 110) = Value.slice (some ⟨g, 0, none⟩) n cap), (e1 : ρ (.tmp 112) = Value.int IntKind.i64 (q : Int)), -⟩ := hk; refine Par.val_k fun K hK => ?_; unfold Par.val
                   (go_simp; exact hK _ _ ⟨Ext.refl _, rfl⟩)
                 refine ⟨⟨fun _ _ => trivial, fun ρ w' hX hG hk => ?_⟩, ?_⟩
                 · obtain ⟨(e0 : ρ (.tmp 113) = Value.pointer (some ⟨g, q, none⟩)), -⟩ := hk; refine Par.val_k fun K hK => ?_; unfold Par.val
                   (have cc := HCzq.out _ (RA.ext hX HR.out); go_simp; exact hK _ _ ⟨Ext.refl _, rfl⟩)
                 refine ⟨⟨fun _ _ => trivial, fun ρ w' hX hG hk => ?_⟩, ?_⟩
                 · obtain ⟨e0, (e1 : ρ (.tmp 109) = uv zj), (e2 : ρ (.tmp 114) = uv zq), -⟩ := hk; refine Par.val_k fun K hK => ?_; unfold Par.val
                   refine Par.val_call Tryz.func121 (by kernel_rfl) rfl e0 ?_
                   simp only [List.map_toArray, List.map_cons, List.map_nil, e1, e2]
                   refine (lessU_any zj zq _).mono ?_
                   rintro e w2 ⟨rfl, rfl⟩
                   exact ⟨_, rfl, hK _ _ ⟨Ext.refl _, (congrArg Value.bool Hb0.out)⟩⟩
                 refine ⟨⟨fun _ _ => trivial, fun ρ w' hX hG hk => ?_⟩, ?_⟩
                 · obtain ⟨(e0 : ρ (.tmp 115) = Value.bool b0), -⟩ := hk; refine Par.val_k fun K hK => ?_; unfold Par.val
                   (go_simp; exact hK _ _ ⟨Ext.refl _, rfl⟩)
                 trivial
               intro a' w' inv
               have hX := inv.ext
               have q106 : a'.tmps.getD 106 undef = Value.slice (some ⟨g, 0, none⟩) n cap := inv.done 0 _ 106 rfl rfl rfl
               have q107 : a'.tmps.getD 107 undef = Value.int IntKind.i64 (j : Int) := inv.done 1 _ 107 rfl rfl rfl
               have q108 : a'.tmps.getD 108 undef = Value.pointer (some ⟨g, j, none⟩) := inv.done 2 _ 108 rfl rfl rfl
               have q109 : a'.tmps.getD 109 undef = uv zj := inv.done 3 _ 109 rfl rfl rfl
               have q110 : a'.tmps.getD 110 undef = Value.slice (some ⟨g, 0, none⟩) n cap := inv.done 4 _ 110 rfl rfl rfl
               have q111 : a'.tmps.getD 111 undef = Value.int IntKind.i64 (j : Int) := inv.done 5 _ 111 rfl rfl rfl
               have q112 : a'.tmps.getD 112 undef = Value.int IntKind.i64 (q : Int) := inv.done 6 _ 112 rfl rfl rfl
               have q113 : a'.tmps.getD 113 undef = Value.pointer (some ⟨g, q, none⟩) := inv.done 7 _ 113 rfl rfl rfl
               have q114 : a'.tmps.getD 114 undef = uv zq := inv.done 8 _ 114 rfl rfl rfl
               have q115 : a'.tmps.getD 115 undef = Value.bool b0 := inv.done 9 _ 115 rfl rfl rfl
               have q116 : a'.tmps.getD 116 undef = Value.bool (!b0) := inv.done 10 _ 116 rfl rfl rfl
               clear inv
               simp only [List.filterMap_cons, List.filterMap_nil, Par.putAll, Act.put, List.setIfInBounds_toArray, List.set_cons_succ, List.set_cons_zero, q106, q107, q108, q109, q110, q111, q112, q113, q114, q115, q116]
               clear q106 q107 q108 q109 q110 q111 q112 q113 q114 q115 q116
               clear a'
               have HF2 := hid (HF.out.trans (Ext.fr hX))
               have HR2 := hid (RA.ext hX HR.out)
               clear hX HF HR
               have HF := HF2
               have HR := HR2
               clear HF2 HR2
               cases b0
               case false =>
                have HS2 : Hid (d = G) := hid (by have := HS.out; rw [HIN.out] at this; simpa using this)
                have HR2 : Hid (RA _ B g n cap G) := hid (by have := HR.out; rw [HS2.out] at this; exact this)
                go_wp2
                go_roundw
                case rel => exact ⟨I, s, t + 1, G, hI1, hI2, by omega, by first | rfl | go_num, by first | rfl | go_num, HR2, HPL2, HF⟩
                case measure => simp [intOf] <;> omega
               case true =>
                have HS2 : Hid (shiftUp ltU b (j + 1) (swp d j q) = G) := hid (by have := HS.out; rw [HIN.out] at this; simpa using this)
                go_wp2_with fail
                refine ParE.wp_region_e (l := [_, _, _, _, _, _, _, _, _, _, _, _, _, _, _, _, _, _]) rfl (Rg.Ch [15, 17] [] (SwV _ B g n cap j q zj zq d)) (ParC.VC [ParC.EQ (Value.slice (some ⟨g, 0, none⟩) n cap), ParC.EQ (Value.int IntKind.i64 (j : Int)), ParC.EQ (Value.slice (some ⟨g, 0, none⟩) n cap), ParC.EQ (Value.int IntKind.i64 (j : Int)), ParC.EQ (Value.int IntKind.i64 (q : Int)), ParC.EQ (Value.slice (some ⟨g, 0, none⟩) n cap), ParC.EQ (Value.int IntKind.i64 (j : Int)), ParC.EQ (Value.int IntKind.i64 (q : Int)), ParC.EQ (Value.pointer (some ⟨g, q, none⟩)), ParC.EQ (uv zq), ParC.EQ (Value.slice (some ⟨g, 0, none⟩) n cap), ParC.EQ (Value.int IntKind.i64 (j : Int)), ParC.EQ (Value.pointer (some ⟨g, j, none⟩)), ParC.EQ (uv zj), ParC.EQ (Value.pointer (some ⟨g, j, none⟩)), fun _ => True, ParC.EQ (Value.pointer (some ⟨g, q, none⟩)), fun _ => True]) (by kernel_rfl) (by kernel_rfl) (Rg.Ch.start ⟨fun _ => Ext.draw _, trivial⟩) ?_ ?_
                · refine ⟨fun L ρ w' hR hC hL hd hk => ?_, ?_⟩
                  · exact Par.val_of_run rfl ⟨hR.other (by decide), hk.1⟩
                  refine ⟨fun L ρ w' hR hC hL hd hk => ?_, ?_⟩
                  · exact Par.val_of_run rfl ⟨hR.other (by decide), hk.1⟩
                  refine ⟨fun L ρ w' hR hC hL hd hk => ?_, ?_⟩
                  · exact Par.val_of_run rfl ⟨hR.other (by decide), hk.1⟩
                  refine ⟨fun L ρ w' hR hC hL hd hk => ?_, ?_⟩
                  · exact Par.val_of_run rfl ⟨hR.other (by decide), hk.1⟩
                  refine ⟨fun L ρ w' hR hC hL hd hk => ?_, ?_⟩
                  · obtain ⟨(e0 : ρ (.tmp 120) = Value.int IntKind.i64 (j : Int)), (e1 : ρ (Operand.const (Value.int IntKind.i64 1)) = (Value.int IntKind.i64 1)), -⟩ := hk; refine Par.val_k fun K hK => ?_; unfold Par.val
                    (go_simp; exact hK _ _ ⟨hR.other (by decide), rfl⟩)
                  refine ⟨fun L ρ w' hR hC hL hd hk => ?_, ?_⟩
                  · exact Par.val_of_run rfl ⟨hR.other (by decide), hk.1⟩
                  refine ⟨fun L ρ w' hR hC hL hd hk => ?_, ?_⟩
                  · exact Par.val_of_run rfl ⟨hR.other (by decide), hk.1⟩
                  refine ⟨fun L ρ w' hR hC hL hd hk => ?_, ?_⟩
                  · obtain ⟨(e0 : ρ (.tmp 123) = Value.int IntKind.i64 (j : Int)), (e1 : ρ (Operand.const (Value.int IntKind.i64 1)) = (Value.int IntKind.i64 1)), -⟩ := hk; refine Par.val_k fun K hK => ?_; unfold Par.val
                    (go_simp; exact hK _ _ ⟨hR.other (by decide), rfl⟩)
                  refine ⟨fun L ρ w' hR hC hL hd hk => ?_, ?_⟩
                  · obtain ⟨(e0 : ρ (.tmp 122) = Value.slice (some ⟨g, 0, none⟩) n cap), (e1 : ρ (.tmp 124) = Value.int IntKind.i64 (q : Int)), -⟩ := hk; refine Par.val_k fun K hK => ?_; unfold Par.val
                    (go_simp; exact hK _ _ ⟨hR.other (by decide), rfl⟩)
                  refine ⟨fun L ρ w' hR hC hL hd hk => ?_, ?_⟩
                  · obtain ⟨(e0 : ρ (.tmp 125) = Value.pointer (some ⟨g, q, none⟩)), -⟩ := hk; refine Par.val_k fun K hK => ?_; unfold Par.val
                    (obtain ⟨ii, hii, hq⟩ := hR.some 0 rfl (hC.notyet 15 9 hL (by kernel_rfl)); have cc := HCzq.out _ (RA.ext (hq.1 (by omega)) HR.out); go_simp; exact hK _ _ ⟨hR.other (by decide), rfl⟩)
                  refine ⟨fun L ρ w' hR hC hL hd hk => ?_, ?_⟩
                  · exact Par.val_of_run rfl ⟨hR.other (by decide), hk.1⟩
                  refine ⟨fun L ρ w' hR hC hL hd hk => ?_, ?_⟩
                  · exact Par.val_of_run rfl ⟨hR.other (by decide), hk.1⟩
                  refine ⟨fun L ρ w' hR hC hL hd hk => ?_, ?_⟩
                  · obtain ⟨(e0 : ρ (.tmp 127) = Value.slice (some ⟨g, 0, none⟩) n cap), (e1 : ρ (.tmp 128) = Value.int IntKind.i64 (j : Int)), -⟩ := hk; refine Par.val_k fun K hK => ?_; unfold Par.val
                    (go_simp; exact hK _ _ ⟨hR.other (by decide), rfl⟩)
                  refine ⟨fun L ρ w' hR hC hL hd hk => ?_, ?_⟩
                  · obtain ⟨(e0 : ρ (.tmp 129) = Value.pointer (some ⟨g, j, none⟩)), -⟩ := hk; refine Par.val_k fun K hK => ?_; unfold Par.val
                    (obtain ⟨ii, hii, hq⟩ := hR.some 0 rfl (hC.notyet 15 13 hL (by kernel_rfl)); have cc := HCzj.out _ (RA.ext (hq.1 (by omega)) HR.out); go_simp; exact hK _ _ ⟨hR.other (by decide), rfl⟩)
                  refine ⟨fun L ρ w' hR hC hL hd hk => ?_, ?_⟩
                  · obtain ⟨(e0 : ρ (.tmp 117) = Value.slice (some ⟨g, 0, none⟩) n cap), (e1 : ρ (.tmp 118) = Value.int IntKind.i64 (j : Int)), -⟩ := hk; refine Par.val_k fun K hK => ?_; unfold Par.val
                    (go_simp; exact hK _ _ ⟨hR.other (by decide), rfl⟩)
                  refine ⟨fun L ρ w' hR hC hL hd hk => ?_, ?_⟩
                  · obtain ⟨(e0 : ρ (.tmp 131) = Value.pointer (some ⟨g, j, none⟩)), (e1 : ρ (.tmp 126) = uv zq), -⟩ := hk; refine Par.val_k fun K hK => ?_; unfold Par.val
                    (obtain ⟨hq, hs⟩ := hR.go 0 rfl hL (.inl rfl) (by decide); have hx := hq.1 (by decide); have hrow := RA.ext hx HR.out; obtain ⟨cc, ff⟩ := hrow.at (j := j) (by omega); obtain ⟨hset, hfs⟩ := hrow.set j zq; have HSET := hid hset; have HFS := hid hfs; clear hset hfs hrow; go_simp; exact hK _ _ ⟨hs none _ _ ⟨fun h => absurd h (by decide), HSET.out, (Ext.fr hx).trans HFS.out⟩, trivial⟩)
                  refine ⟨fun L ρ w' hR hC hL hd hk => ?_, ?_⟩
                  · obtain ⟨(e0 : ρ (.tmp 119) = Value.slice (some ⟨g, 0, none⟩) n cap), (e1 : ρ (.tmp 121) = Value.int IntKind.i64 (q : Int)), -⟩ := hk; refine Par.val_k fun K hK => ?_; unfold Par.val
                    (go_simp; exact hK _ _ ⟨hR.other (by decide), rfl⟩)
                  refine ⟨fun L ρ w' hR hC hL hd hk => ?_, ?_⟩
                  · obtain ⟨(e0 : ρ (.tmp 132) = Value.pointer (some ⟨g, q, none⟩)), (e1 : ρ (.tmp 130) = uv zj), -⟩ := hk; refine Par.val_k fun K hK => ?_; unfold Par.val
                    (obtain ⟨hq, hs⟩ := hR.go 1 rfl hL (.inr ⟨15, rfl, hC.before 15 (i := 17) rfl hd (by kernel_rfl)⟩) (by decide); obtain ⟨hrow, hfr⟩ := hq.2; obtain ⟨cc, ff⟩ := hrow.at (j := q) (by omega); obtain ⟨hset, hfs⟩ := hrow.set q zj; have HSET := hid hset; have HFS := hid hfs; have HFR := hid hfr; clear hset hfs hrow hfr; go_simp; exact hK _ _ ⟨hs none _ _ ⟨fun h => absurd h (by decide), HSET.out, HFR.out.trans HFS.out⟩, trivial⟩)
                  trivial
                intro a' w' inv hR
                have q117 : a'.tmps.getD 117 undef = Value.slice (some ⟨g, 0, none⟩) n cap := inv.done 0 _ 117 rfl rfl rfl
                have q118 : a'.tmps.getD 118 undef = Value.int IntKind.i64 (j : Int) := inv.done 1 _ 118 rfl rfl rfl
                have q119 : a'.tmps.getD 119 undef = Value.slice (some ⟨g, 0, none⟩) n cap := inv.done 2 _ 119 rfl rfl rfl
                have q120 : a'.tmps.getD 120 undef = Value.int IntKind.i64 (j : Int) := inv.done 3 _ 120 rfl rfl rfl
                have q121 : a'.tmps.getD 121 undef = Value.int IntKind.i64 (q : Int) := inv.done 4 _ 121 rfl rfl rfl
                have q122 : a'.tmps.getD 122 undef = Value.slice (some ⟨g, 0, none⟩) n cap := inv.done 5 _ 122 rfl rfl rfl
                have q123 : a'.tmps.getD 123 undef = Value.int IntKind.i64 (j : Int) := inv.done 6 _ 123 rfl rfl rfl
                have q124 : a'.tmps.getD 124 undef = Value.int IntKind.i64 (q : Int) := inv.done 7 _ 124 rfl rfl rfl
                have q125 : a'.tmps.getD 125 undef = Value.pointer (some ⟨g, q, none⟩) := inv.done 8 _ 125 rfl rfl rfl
                have q126 : a'.tmps.getD 126 undef = uv zq := inv.done 9 _ 126 rfl rfl rfl
                have q127 : a'.tmps.getD 127 undef = Value.slice (some ⟨g, 0, none⟩) n cap := inv.done 10 _ 127 rfl rfl rfl
                have q128 : a'.tmps.getD 128 undef = Value.int IntKind.i64 (j : Int) := inv.done 11 _ 128 rfl rfl rfl
                have q129 : a'.tmps.getD 129 undef = Value.pointer (some ⟨g, j, none⟩) := inv.done 12 _ 129 rfl rfl rfl
                have q130 : a'.tmps.getD 130 undef = uv zj := inv.done 13 _ 130 rfl rfl rfl
                have q131 : a'.tmps.getD 131 undef = Value.pointer (some ⟨g, j, none⟩) := inv.done 14 _ 131 rfl rfl rfl
                have q132 : a'.tmps.getD 132 undef = Value.pointer (some ⟨g, q, none⟩) := inv.done 16 _ 132 rfl rfl rfl
                clear inv
                simp only [List.filterMap_cons, List.filterMap_nil, Par.putAll, Act.put, List.setIfInBounds_toArray, List.set_cons_succ, List.set_cons_zero, q117, q118, q119, q120, q121, q122, q123, q124, q125, q126, q127, q128, q129, q130, q131, q132]
                clear q117 q118 q119 q120 q121 q122 q123 q124 q125 q126 q127 q128 q129 q130 q131 q132
                obtain ⟨-, hrd, hf⟩ := Rg.Ch.fin hR (by decide) 2 rfl; have HRD := hid hrd; have HF4 := hid hf; clear hrd hf hR
                try clear a'
                have HR3 := hid (RA.swp Hzj Hzq HRD.out)
                have HF3 := hid (HF.out.trans HF4.out)
                clear HRD HF4 HR HF
                have HR := HR3
                have HF := HF3
                clear HR3 HF3
                go_wp2
                go_roundw
                case rel => exact ⟨j + 1, swp d j q, by omega, by omega, by first | rfl | go_num, HR, HS2, HF⟩
                case measure => simp [intOf] <;> omega
             · have hcm : (j < b) = False := by simp; omega
               have HS2 : Hid (d = G) := hid (by have := HS.out; rw [shiftUp_stop b j hjge d] at this; exact this)
               have HR2 : Hid (RA _ B g n cap G) := hid (by have := HR.out; rw [HS2.out] at this; exact this)
               go_wp2
               go_roundw
               case rel => exact ⟨I, s, t + 1, G, hI1, hI2, by omega, by first | rfl | go_num, by first | rfl | go_num, HR2, HPL2, HF⟩
               case measure => simp [intOf] <;> omega
     · have HIB : Hid (I = b) := hid (by omega)
       have HPP : Hid (D = (d, true)) := hid (by rw [← HL.out, HEQ.out, if_pos HIB.out])
       have hee : (I = b) = True := by simp; exact HIB.out
       go_wp2
       go_returns
       exact ⟨by rw [HPP.out]; rfl, by rw [HPP.out]; exact HR.out, HF.out⟩
end Go.Proofs.YtmbigiihcplcjaaGreatDoor

set_option linter.unusedSimpArgs false
set_option linter.unusedVariables false
namespace Go.Proofs.YtmbigiihcplcjaaGreatDoor
open Go Go.RowKit Go.Tum Go.ChangeMaps Go.Sort
open Go.ParB (upd Lof)
open Go.ParE (putS slotsR slots Closed)

theorem RA.fr {w w' : World} {B g n cap : Nat} {d : Array UInt64} {p : Nat} (f : Fr [p] w w') (hp : p ≠ g) (h : RA w B g n cap d) : RA w' B g n cap d := by
 refine ⟨⟨h.row.1, ?_⟩, h.size⟩
 rcases h.row.2 with hn | ⟨g', cap', cur, hv, hb, hgg, rest⟩
 · exact .inl hn
 · refine .inr ⟨g', cap', cur, hv, hb, ?_, rest⟩
   have e : g' = g := by cases hv; rfl
   rw [f.block g' (Array.getElem?_eq_some_iff.1 hgg).1 (by rw [e]; simpa using Ne.symm hp)]; exact hgg
theorem RA.lt {w : World} {B g n cap : Nat} {d : Array UInt64} (h : RA w B g n cap d) : g < w.heap.size := by
 rcases h.row.2 with ⟨hv, -⟩ | ⟨g', cap', cur, hv, hb, hgg, rest⟩
 · cases hv
 · have e : g' = g := by cases hv; rfl
   rw [← e]; exact (Array.getElem?_eq_some_iff.1 hgg).1
/-- A block with a count. -/
def Cnt (w : World) (p : Nat) : Prop := ∃ x : Int, w.heap[p]? = some (.cells #[.int .i64 x] 3 (0, 0))
theorem lk1v {w : World} {b : Nat} {v0 : Value} {ty : TypeId} (h : w.heap[b]? = some (.cells #[v0] ty (0, 0))) : w.cell? ⟨b, 0, none⟩ = some v0 ∧ w.frozen? ⟨b, 0, none⟩ = false := by
 constructor <;> simp [World.cell?, World.frozen?, h]
theorem Cnt.ext {w w' : World} {p : Nat} (hx : Ext w w') (h : Cnt w p) : Cnt w' p := by
 obtain ⟨x, h⟩ := h
 exact ⟨x, by rw [hx.block p (Array.getElem?_eq_some_iff.1 h).1]; exact h⟩
theorem Cnt.lt {w : World} {p : Nat} (h : Cnt w p) : p < w.heap.size := by
 obtain ⟨x, h⟩ := h
 exact (Array.getElem?_eq_some_iff.1 h).1
theorem Cnt.set {w : World} {p : Nat} (h : Cnt w p) (y : Int) : Cnt (w.setCell ⟨p, 0, none⟩ (.int .i64 y)) p := by
 obtain ⟨x, h⟩ := h
 exact ⟨y, one_setCell h⟩
/-- Two indices, as a result. -/
def ii (x y : Nat) : Value := .tuple #[.int .i64 (x : Int), .int .i64 (y : Int)]
set_option maxRecDepth 100000 in
set_option maxHeartbeats 2000000 in
theorem ord2V_any {B : Nat} {w : World} (g n cap a b p : Nat) (d : Array UInt64) (h : RA w B g n cap d) (hc : Cnt w p) (hpg : p ≠ g) (han : a < n) (hbn : b < n) :
 Calls Tryz.prog 166 #[.slice (some ⟨g, 0, none⟩) n cap, .int .i64 (a : Int), .int .i64 (b : Int), .pointer (some ⟨p, 0, none⟩)] w fun e w' =>
  (∃ x y, e = .returned (ii x y) ∧ ((x = a ∧ y = b) ∨ (x = b ∧ y = a))) ∧ RA w' B g n cap d ∧ Cnt w' p ∧ Fr [p] w w' := by
 have HR := hid h
 have HC := hid hc
 have HP := hid hpg
 have HF : Hid (Fr [p] w w) := hid (Fr.refl _ _)
 obtain ⟨hcap1, hcap2⟩ := h.bound
 have han2 : (a : Int) < n := by omega
 have hbn2 : (b : Int) < n := by omega
 clear h hc hpg
 obtain ⟨za, Hza, HCza⟩ := cellV (B := B) (g := g) (n := n) (cap := cap) d a (by omega)
 obtain ⟨zb, Hzb, HCzb⟩ := cellV (B := B) (g := g) (n := n) (cap := cap) d b (by omega)
 obtain ⟨b0, Hb0⟩ : ∃ b, Hid (ltU zb za = b) := ⟨_, hid rfl⟩
 go_enter Tryz.func166, Tryz.ntmps166
 go_wp2_with fail
 refine Par.wp_region_par (l := [_, _, _, _, _, _, _, _, _]) rfl Ext (Par.VL [Par.EQ (Value.slice (some ⟨g, 0, none⟩) n cap), Par.EQ (Value.int IntKind.i64 (b : Int)), Par.EQ (Value.pointer (some ⟨g, b, none⟩)), Par.EQ (uv zb), Par.EQ (Value.slice (some ⟨g, 0, none⟩) n cap), Par.EQ (Value.int IntKind.i64 (a : Int)), Par.EQ (Value.pointer (some ⟨g, a, none⟩)), Par.EQ (uv za), Par.EQ (Value.bool b0)]) (by kernel_rfl) Ext.refl (fun _ _ _ h1 h2 => Ext.trans h1 h2) (Ext.draw _) (Par.VL_stab ?_) ?_ ?_
 · simp only [List.forall_mem_cons, List.not_mem_nil, false_implies, implies_true, and_true]
   refine ⟨fun _ _ _ _ h => h, fun _ _ _ _ h => h, fun _ _ _ _ h => h, fun _ _ _ _ h => h, fun _ _ _ _ h => h, fun _ _ _ _ h => h, fun _ _ _ _ h => h, fun _ _ _ _ h => h, fun _ _ _ _ h => h⟩
 · refine ⟨⟨fun _ _ => trivial, fun ρ w' hX hG hk => ?_⟩, ?_⟩
   · exact Par.val_of_run rfl ⟨Ext.refl _, hk.1⟩
   refine ⟨⟨fun _ _ => trivial, fun ρ w' hX hG hk => ?_⟩, ?_⟩
   · exact Par.val_of_run rfl ⟨Ext.refl _, hk.1⟩
   refine ⟨⟨fun _ _ => trivial, fun ρ w' hX hG hk => ?_⟩, ?_⟩
   · obtain ⟨(e0 : ρ (.tmp 10) = Value.slice (some ⟨g, 0, none⟩) n cap), (e1 : ρ (.tmp 11) = Value.int IntKind.i64 (b : Int)), -⟩ := hk; refine Par.val_k fun K hK => ?_; unfold Par.val
     (go_simp; exact hK _ _ ⟨Ext.refl _, rfl⟩)
   refine ⟨⟨fun _ _ => trivial, fun ρ w' hX hG hk => ?_⟩, ?_⟩
   · obtain ⟨(e0 : ρ (.tmp 12) = Value.pointer (some ⟨g, b, none⟩)), -⟩ := hk; refine Par.val_k fun K hK => ?_; unfold Par.val
     (have cc := HCzb.out _ (RA.ext hX HR.out); go_simp; exact hK _ _ ⟨Ext.refl _, rfl⟩)
   refine ⟨⟨fun _ _ => trivial, fun ρ w' hX hG hk => ?_⟩, ?_⟩
   · exact Par.val_of_run rfl ⟨Ext.refl _, hk.1⟩
   refine ⟨⟨fun _ _ => trivial, fun ρ w' hX hG hk => ?_⟩, ?_⟩
   · exact Par.val_of_run rfl ⟨Ext.refl _, hk.1⟩
   refine ⟨⟨fun _ _ => trivial, fun ρ w' hX hG hk => ?_⟩, ?_⟩
   · obtain ⟨(e0 : ρ (.tmp 14) = Value.slice (some ⟨g, 0, none⟩) n cap), (e1 : ρ (.tmp 15) = Value.int IntKind.i64 (a : Int)), -⟩ := hk; refine Par.val_k fun K hK => ?_; unfold Par.val
     (go_simp; exact hK _ _ ⟨Ext.refl _, rfl⟩)
   refine ⟨⟨fun _ _ => trivial, fun ρ w' hX hG hk => ?_⟩, ?_⟩
   · obtain ⟨(e0 : ρ (.tmp 16) = Value.pointer (some ⟨g, a, none⟩)), -⟩ := hk; refine Par.val_k fun K hK => ?_; unfold Par.val
     (have cc := HCza.out _ (RA.ext hX HR.out); go_simp; exact hK _ _ ⟨Ext.refl _, rfl⟩)
   refine ⟨⟨fun _ _ => trivial, fun ρ w' hX hG hk => ?_⟩, ?_⟩
   · obtain ⟨e0, (e1 : ρ (.tmp 13) = uv zb), (e2 : ρ (.tmp 17) = uv za), -⟩ := hk; refine Par.val_k fun K hK => ?_; unfold Par.val
     refine Par.val_call Tryz.func121 (by kernel_rfl) rfl e0 ?_
     simp only [List.map_toArray, List.map_cons, List.map_nil, e1, e2]
     refine (lessU_any zb za _).mono ?_
     rintro e w2 ⟨rfl, rfl⟩
     exact ⟨_, rfl, hK _ _ ⟨Ext.refl _, (congrArg Value.bool Hb0.out)⟩⟩
   trivial
 intro a' w' inv
 have hX := inv.ext
 have q10 : a'.tmps.getD 10 undef = Value.slice (some ⟨g, 0, none⟩) n cap := inv.done 0 _ 10 rfl rfl rfl
 have q11 : a'.tmps.getD 11 undef = Value.int IntKind.i64 (b : Int) := inv.done 1 _ 11 rfl rfl rfl
 have q12 : a'.tmps.getD 12 undef = Value.pointer (some ⟨g, b, none⟩) := inv.done 2 _ 12 rfl rfl rfl
 have q13 : a'.tmps.getD 13 undef = uv zb := inv.done 3 _ 13 rfl rfl rfl
 have q14 : a'.tmps.getD 14 undef = Value.slice (some ⟨g, 0, none⟩) n cap := inv.done 4 _ 14 rfl rfl rfl
 have q15 : a'.tmps.getD 15 undef = Value.int IntKind.i64 (a : Int) := inv.done 5 _ 15 rfl rfl rfl
 have q16 : a'.tmps.getD 16 undef = Value.pointer (some ⟨g, a, none⟩) := inv.done 6 _ 16 rfl rfl rfl
 have q17 : a'.tmps.getD 17 undef = uv za := inv.done 7 _ 17 rfl rfl rfl
 have q18 : a'.tmps.getD 18 undef = Value.bool b0 := inv.done 8 _ 18 rfl rfl rfl
 clear inv
 simp only [List.filterMap_cons, List.filterMap_nil, Par.putAll, Act.put, List.setIfInBounds_toArray, List.set_cons_succ, List.set_cons_zero, q10, q11, q12, q13, q14, q15, q16, q17, q18]
 clear q10 q11 q12 q13 q14 q15 q16 q17 q18
 clear a'
 have HC2 := hid (Cnt.ext hX HC.out)
 have HF2 := hid (HF.out.trans (Ext.fr hX))
 have HR2 := hid (RA.ext hX HR.out)
 clear hX HF HR HC
 have HF := HF2
 have HR := HR2
 have HC := HC2
 clear HF2 HR2 HC2
 cases b0
 case false =>
  go_wp2
  go_returns
  exact ⟨⟨a, b, rfl, .inl ⟨rfl, rfl⟩⟩, HR.out, HC.out, HF.out⟩
 case true =>
  obtain ⟨x, hx⟩ := HC.out
  have HX := hid hx
  obtain ⟨c0, f0⟩ := lk1v hx
  clear hx
  go_wp2
  go_returns
  exact ⟨⟨b, a, rfl, .inr ⟨rfl, rfl⟩⟩, RA.fr (fr_setCell _ _ _ (by simp)) HP.out HR.out, Cnt.set ⟨x, HX.out⟩ _, HF.out.trans (fr_setCell _ _ _ (by simp))⟩
set_option maxRecDepth 100000 in
set_option maxHeartbeats 2000000 in
theorem medV_any {B : Nat} {w : World} (g n cap a b c p : Nat) (d : Array UInt64) (h : RA w B g n cap d) (hc : Cnt w p) (hpg : p ≠ g) (han : a < n) (hbn : b < n) (hcn : c < n) :
 Calls Tryz.prog 149 #[.slice (some ⟨g, 0, none⟩) n cap, .int .i64 (a : Int), .int .i64 (b : Int), .int .i64 (c : Int), .pointer (some ⟨p, 0, none⟩)] w fun e w' =>
  (∃ x : Nat, e = .returned (.int .i64 (x : Int)) ∧ (x = a ∨ x = b ∨ x = c)) ∧ RA w' B g n cap d ∧ Cnt w' p ∧ Fr [p] w w' := by
 have HR := hid h
 have HC := hid hc
 have HP := hid hpg
 clear h hc hpg
 go_enter Tryz.func149, Tryz.ntmps149
 go_wp2_with fail
 refine (ord2V_any g n cap a b p d HR.out HC.out HP.out han hbn).mono ?_
 rintro e w1 ⟨⟨x1, y1, rfl, h1⟩, hr1, hc1, hf1⟩
 have hx1 : x1 < n := by rcases h1 with ⟨rfl, rfl⟩ | ⟨rfl, rfl⟩ <;> assumption
 have hy1 : y1 < n := by rcases h1 with ⟨rfl, rfl⟩ | ⟨rfl, rfl⟩ <;> assumption
 have HR1 := hid hr1
 have HC1 := hid hc1
 have HF1 := hid hf1
 have H1 := hid h1
 clear h1 hr1 hc1 hf1
 unfold ii
 go_wp2_with fail
 refine (ord2V_any g n cap y1 c p d HR1.out HC1.out HP.out hy1 hcn).mono ?_
 rintro e w2 ⟨⟨x2, y2, rfl, h2⟩, hr2, hc2, hf2⟩
 have hx2 : x2 < n := by rcases h2 with ⟨rfl, rfl⟩ | ⟨rfl, rfl⟩ <;> assumption
 have HR2 := hid hr2
 have HC2 := hid hc2
 have HF2 := hid (HF1.out.trans hf2)
 have H2 := hid h2
 clear h2 hr2 hc2 hf2 HR1 HC1 HF1
 unfold ii
 go_wp2_with fail
 refine (ord2V_any g n cap x1 x2 p d HR2.out HC2.out HP.out hx1 hx2).mono ?_
 rintro e w3 ⟨⟨x3, y3, rfl, h3⟩, hr3, hc3, hf3⟩
 have HR3 := hid hr3
 have HC3 := hid hc3
 have HF3 := hid (HF2.out.trans hf3)
 have H3 := hid h3
 clear h3 hr3 hc3 hf3 HR2 HC2 HF2
 unfold ii
 go_wp2
 go_returns
 exact ⟨⟨y3, rfl, by have := H1.out; have := H2.out; have := H3.out; omega⟩, HR3.out, HC3.out, HF3.out⟩
set_option maxRecDepth 100000 in
set_option maxHeartbeats 2000000 in
theorem madjV_any {B : Nat} {w : World} (g n cap a p : Nat) (d : Array UInt64) (h : RA w B g n cap d) (hc : Cnt w p) (hpg : p ≠ g) (ha1 : 1 ≤ a) (han : a + 1 < n) (hbig : n ≤ 4611686018427387903) :
 Calls Tryz.prog 148 #[.slice (some ⟨g, 0, none⟩) n cap, .int .i64 (a : Int), .pointer (some ⟨p, 0, none⟩)] w fun e w' =>
  (∃ x : Nat, e = .returned (.int .i64 (x : Int)) ∧ a - 1 ≤ x ∧ x ≤ a + 1) ∧ RA w' B g n cap d ∧ Cnt w' p ∧ Fr [p] w w' := by
 have HR := hid h
 have HC := hid hc
 have HP := hid hpg
 clear h hc hpg
 obtain ⟨q, hq⟩ : ∃ q, q + 1 = a := ⟨a - 1, by omega⟩
 obtain ⟨r, hr⟩ : ∃ r, r = a + 1 := ⟨_, rfl⟩
 have hwq : IntKind.i64.wrap ((a : Int) - 1) = (q : Int) := i64v _ (by omega) (by omega)
 have hwr : IntKind.i64.wrap ((a : Int) + 1) = (r : Int) := i64v _ (by omega) (by omega)
 have hqn : q < n := by omega
 have hrn : r < n := by omega
 have han1 : a < n := by omega
 have HQ := hid (And.intro hq hr)
 clear hq hr
 go_enter Tryz.func148, Tryz.ntmps148
 go_wp2_with fail
 refine (medV_any g n cap q a r p d HR.out HC.out HP.out hqn han1 hrn).mono ?_
 rintro e w1 ⟨⟨x1, rfl, h1⟩, hr1, hc1, hf1⟩
 have HR1 := hid hr1
 have HC1 := hid hc1
 have HF1 := hid hf1
 have H1 := hid h1
 clear h1 hr1 hc1 hf1
 go_wp2
 go_returns
 exact ⟨⟨x1, rfl, by have := H1.out; have := HQ.out; omega, by have := H1.out; have := HQ.out; omega⟩, HR1.out, HC1.out, HF1.out⟩
/-- A pivot's place and a hint. -/
def ph (x : Nat) (y : Int) : Value := .tuple #[.int .i64 (x : Int), .int .i64 y]
set_option maxRecDepth 100000 in
set_option maxHeartbeats 4000000 in
theorem pivV_any {B : Nat} {w : World} (g n cap a b : Nat) (d : Array UInt64) (h : RA w B g n cap d) (hab : a + 12 < b) (hbn : b ≤ n) (hbig : n ≤ 4611686018427387903) :
 Calls Tryz.prog 118 #[.slice (some ⟨g, 0, none⟩) n cap, .int .i64 (a : Int), .int .i64 (b : Int)] w fun e w' =>
  (∃ (x : Nat) (y : Int), e = .returned (ph x y) ∧ a ≤ x ∧ x < b ∧ (y = 0 ∨ y = 1 ∨ y = 2)) ∧ RA w' B g n cap d ∧ Ext w w' := by
 have HR := hid h
 obtain ⟨l, hl⟩ : ∃ l, l = b - a := ⟨_, rfl⟩
 obtain ⟨q, hq⟩ : ∃ q, q = l / 4 := ⟨_, rfl⟩
 obtain ⟨q2, hq2⟩ : ∃ q2, q2 = q * 2 := ⟨_, rfl⟩
 obtain ⟨q3, hq3⟩ : ∃ q3, q3 = q * 3 := ⟨_, rfl⟩
 obtain ⟨i, hi⟩ : ∃ i, i = a + q := ⟨_, rfl⟩
 obtain ⟨j, hj⟩ : ∃ j, j = a + q2 := ⟨_, rfl⟩
 obtain ⟨k, hk⟩ : ∃ k, k = a + q3 := ⟨_, rfl⟩
 have hwl : IntKind.i64.wrap ((b : Int) - (a : Int)) = (l : Int) := i64v _ (by omega) (by omega)
 have hwq : IntKind.i64.wrap ((l : Int) / 4) = (q : Int) := i64v _ (by omega) (by omega)
 have hwq1 : IntKind.i64.wrap (q : Int) = (q : Int) := i64v _ (by omega) (by omega)
 have hwq2 : IntKind.i64.wrap ((q : Int) * 2) = (q2 : Int) := i64v _ (by omega) (by omega)
 have hwq3 : IntKind.i64.wrap ((q : Int) * 3) = (q3 : Int) := i64v _ (by omega) (by omega)
 have hwi : IntKind.i64.wrap ((a : Int) + (q : Int)) = (i : Int) := i64v _ (by omega) (by omega)
 have hwj : IntKind.i64.wrap ((a : Int) + (q2 : Int)) = (j : Int) := i64v _ (by omega) (by omega)
 have hwk : IntKind.i64.wrap ((a : Int) + (q3 : Int)) = (k : Int) := i64v _ (by omega) (by omega)
 have hl8 : 8 ≤ l := by omega
 have hia : a ≤ i ∧ i < b := by omega
 have hja : a ≤ j ∧ j < b := by omega
 have hka : a ≤ k ∧ k < b := by omega
 have h50 : 50 ≤ l → a + 1 ≤ i ∧ i + 1 < b ∧ a + 1 ≤ j ∧ j + 1 < b ∧ a + 1 ≤ k ∧ k + 1 < b := by omega
 have HIA := hid hia
 have HJA := hid hja
 have HKA := hid hka
 have H50 := hid h50
 have hg : g ≠ w.heap.size := by have := h.lt; omega
 have HG := hid hg
 have HE0 : Hid (Ext w (w.alloc (.cells #[.int .i64 0] 3))) := hid (Ext.alloc _ _)
 have HC0 : Hid (Cnt (w.alloc (.cells #[.int .i64 0] 3)) w.heap.size) := hid ⟨0, heap_alloc_new _ _⟩
 have HR0 : Hid (RA (w.alloc (.cells #[.int .i64 0] 3)) B g n cap d) := hid (RA.ext HE0.out HR.out)
 obtain ⟨p, hp⟩ : ∃ p, p = w.heap.size := ⟨_, rfl⟩
 have HP := hid hp
 clear h hl hq hq2 hq3 hi hj hk hia hja hka h50 hg hp
 go_enter Tryz.func118, Tryz.ntmps118
 go_upto_if 32 with fail
 try simp only [← HP.out]
 rw [← HP.out] at HC0 HG
 generalize w.alloc (.cells #[.int .i64 0] 3) = w0 at *
 have HPG : Hid (p ≠ g) := hid (fun e => HG.out e.symm)
 go_cut [10, 11, 12] from 13 (fun i' j' k' wx => ∃ x y z : Nat, j' = .int .i64 (y : Int) ∧ a ≤ y ∧ y < b ∧ Hid (RA wx B g n cap d) ∧ Hid (Cnt wx p) ∧ Hid (Fr [p] w0 wx))
 case first =>
  rcases Nat.lt_or_ge l 50 with hl50 | hl50
  · have hc50 : (50 ≤ l) = False := by simp; omega
    have hin : i < n := by have := HIA.out; omega
    have hjn : j < n := by have := HJA.out; omega
    have hkn : k < n := by have := HKA.out; omega
    go_wp2_with fail
    refine (medV_any g n cap i j k p d HR0.out HC0.out HPG.out hin hjn hkn).mono ?_
    rintro e w1 ⟨⟨x1, rfl, h1⟩, hr1, hc1, hf1⟩
    have HR1 := hid hr1
    have HC1 := hid hc1
    have HF1 := hid hf1
    have H1 := hid h1
    clear h1 hr1 hc1 hf1
    go_wp2
    go_meet
    case rel => exact ⟨0, x1, 0, rfl, by have := H1.out; have := HIA.out; have := HJA.out; have := HKA.out; omega, by have := H1.out; have := HIA.out; have := HJA.out; have := HKA.out; omega, HR1, HC1, HF1⟩
  · have H5 := hid (H50.out hl50)
    go_wp2_with fail
    refine (madjV_any g n cap i p d HR0.out HC0.out HPG.out (by have := H5.out; omega) (by have := H5.out; omega) hbig).mono ?_
    rintro e w1 ⟨⟨x1, rfl, h11, h12⟩, hr1, hc1, hf1⟩
    have HR1 := hid hr1
    have HC1 := hid hc1
    have HF1 := hid hf1
    have H1 := hid (And.intro h11 h12)
    clear h11 h12 hr1 hc1 hf1
    go_wp2_with fail
    refine (madjV_any g n cap j p d HR1.out HC1.out HPG.out (by have := H5.out; omega) (by have := H5.out; omega) hbig).mono ?_
    rintro e w2 ⟨⟨x2, rfl, h21, h22⟩, hr2, hc2, hf2⟩
    have HR2 := hid hr2
    have HC2 := hid hc2
    have HF2 := hid (HF1.out.trans hf2)
    have H2 := hid (And.intro h21 h22)
    clear h21 h22 hr2 hc2 hf2 HR1 HC1 HF1
    go_wp2_with fail
    refine (madjV_any g n cap k p d HR2.out HC2.out HPG.out (by have := H5.out; omega) (by have := H5.out; omega) hbig).mono ?_
    rintro e w3 ⟨⟨x3, rfl, h31, h32⟩, hr3, hc3, hf3⟩
    have HR3 := hid hr3
    have HC3 := hid hc3
    have HF3 := hid (HF2.out.trans hf3)
    have H3 := hid (And.intro h31 h32)
    clear h31 h32 hr3 hc3 hf3 HR2 HC2 HF2
    have hb1 : a ≤ x1 ∧ x1 < b := by have := H5.out; have := H1.out; omega
    have hb2 : a ≤ x2 ∧ x2 < b := by have := H5.out; have := H2.out; omega
    have hb3 : a ≤ x3 ∧ x3 < b := by have := H5.out; have := H3.out; omega
    have HB1 := hid hb1
    have HB2 := hid hb2
    have HB3 := hid hb3
    clear hb1 hb2 hb3
    go_wp2_with fail
    refine (medV_any g n cap x1 x2 x3 p d HR3.out HC3.out HPG.out (by have := HB1.out; omega) (by have := HB2.out; omega) (by have := HB3.out; omega)).mono ?_
    rintro e w4 ⟨⟨x4, rfl, h4⟩, hr4, hc4, hf4⟩
    have HR4 := hid hr4
    have HC4 := hid hc4
    have HF4 := hid (HF3.out.trans hf4)
    have H4 := hid h4
    clear h4 hr4 hc4 hf4 HR3 HC3 HF3
    go_wp2
    go_meet
    case rel => exact ⟨0, x4, 0, rfl, by have := H4.out; have := HB1.out; have := HB2.out; have := HB3.out; omega, by have := H4.out; have := HB1.out; have := HB2.out; have := HB3.out; omega, HR4, HC4, HF4⟩
 case rest =>
  obtain ⟨-, y, -, rfl, hya, hyb, HR1, HC1, HF1⟩ := hcut
  have HX : Hid (Ext w wc) := hid (Fr.ext ((Ext.fr HE0.out).trans HF1.out |>.wider (fun x hx => .inr (by simp at hx; rw [hx, HP.out]; exact Nat.le_refl _))))
  obtain ⟨x, hx⟩ := HC1.out
  obtain ⟨c0, f0⟩ := lk1v hx
  clear hx HF1
  by_cases h0 : x = 0
  · subst h0
    go_wp2
    go_returns
    exact ⟨⟨y, 1, rfl, hya, hyb, by omega⟩, HR1.out, HX.out⟩
  · have h0b : (x == 0) = false := by simpa using h0
    by_cases h12 : x = 12
    · subst h12
      go_wp2
      go_returns
      exact ⟨⟨y, 2, rfl, hya, hyb, by omega⟩, HR1.out, HX.out⟩
    · have h12b : (x == 12) = false := by simpa using h12
      go_wp2
      go_returns
      exact ⟨⟨y, 0, rfl, hya, hyb, by omega⟩, HR1.out, HX.out⟩
end Go.Proofs.YtmbigiihcplcjaaGreatDoor

set_option linter.unusedSimpArgs false
set_option linter.unusedVariables false
namespace Go.Proofs.YtmbigiihcplcjaaGreatDoor
open Go Go.RowKit Go.Tum Go.ChangeMaps Go.Sort
open Go.ParB (upd Lof)
open Go.ParE (putS slotsR slots Closed)

/-- A jumping number in its block. -/
def XS (w : World) (p x : Nat) : Prop := w.heap[p]? = some (.cells #[.int .u64 (x : Int)] 196 (0, 0))
theorem XS.at {w : World} {p x : Nat} (h : XS w p x) : w.cell? ⟨p, 0, none⟩ = some (.int .u64 (x : Int)) ∧ w.frozen? ⟨p, 0, none⟩ = false := lk1v h
theorem XS.ext {w w' : World} {p x : Nat} (hx : Ext w w') (h : XS w p x) : XS w' p x := by
 unfold XS
 rw [hx.block p (Array.getElem?_eq_some_iff.1 h).1]; exact h
theorem XS.set {w : World} {p x : Nat} (h : XS w p x) (y : Nat) : XS (w.setCell ⟨p, 0, none⟩ (.int .u64 (y : Int))) p y ∧ Fr [p] w (w.setCell ⟨p, 0, none⟩ (.int .u64 (y : Int))) := ⟨one_setCell h, fr_setCell _ _ _ (by simp)⟩
theorem XS.fr {w w' : World} {g p x : Nat} (f : Fr [g] w w') (hp : p ≠ g) (h : XS w p x) : XS w' p x := by
 unfold XS
 rw [f.block p (Array.getElem?_eq_some_iff.1 h).1 (by simpa using hp)]; exact h
set_option maxRecDepth 100000 in
set_option maxHeartbeats 2000000 in
theorem xorV_any {w : World} (p x : Nat) (h : XS w p x) (hx : x < 18446744073709551616) :
 Calls Tryz.prog 147 #[.pointer (some ⟨p, 0, none⟩)] w fun e w' => (∃ y : Nat, e = .returned (.int .u64 (y : Int)) ∧ y < 18446744073709551616 ∧ XS w' p y) ∧ Fr [p] w w' := by
 have HS := hid h
 have HF : Hid (Fr [p] w w) := hid (Fr.refl _ _)
 obtain ⟨s, hs⟩ : ∃ s, s = x * 8192 % 18446744073709551616 := ⟨_, rfl⟩
 obtain ⟨A, hA⟩ : ∃ A : Nat, A = x ^^^ s := ⟨_, rfl⟩
 obtain ⟨t, ht⟩ : ∃ t, t = A / 128 := ⟨_, rfl⟩
 obtain ⟨C, hC⟩ : ∃ C : Nat, C = A ^^^ t := ⟨_, rfl⟩
 obtain ⟨u, hu⟩ : ∃ u, u = C * 131072 % 18446744073709551616 := ⟨_, rfl⟩
 obtain ⟨E, hE⟩ : ∃ E : Nat, E = C ^^^ u := ⟨_, rfl⟩
 have ls : s < 18446744073709551616 := by omega
 have lA : A < 18446744073709551616 := by rw [hA]; exact Nat.xor_lt_two_pow (n := 64) (by omega) (by omega)
 have lt' : t < 18446744073709551616 := by omega
 have lC : C < 18446744073709551616 := by rw [hC]; exact Nat.xor_lt_two_pow (n := 64) (by omega) (by omega)
 have lu : u < 18446744073709551616 := by omega
 have lE : E < 18446744073709551616 := by rw [hE]; exact Nat.xor_lt_two_pow (n := 64) (by omega) (by omega)
 have e1 : IntKind.u64.wrap ((x : Int) * 8192) = (s : Int) := by rw [IntKind.wrap_u64]; omega
 have e2 : bits .xor .u64 (x : Int) (s : Int) = (A : Int) := by rw [bits_xor_u64_nat _ _ hx ls, hA]
 have e3 : (A : Int) / 128 = (t : Int) := by omega
 have e4 : bits .xor .u64 (A : Int) (t : Int) = (C : Int) := by rw [bits_xor_u64_nat _ _ lA lt', hC]
 have e5 : IntKind.u64.wrap ((C : Int) * 131072) = (u : Int) := by rw [IntKind.wrap_u64]; omega
 have e6 : bits .xor .u64 (C : Int) (u : Int) = (E : Int) := by rw [bits_xor_u64_nat _ _ lC lu, hE]
 clear h hs hA ht hC hu hE
 go_enter Tryz.func147, Tryz.ntmps147
 go_wp2_with fail
 refine ParE.wp_region_e (l := [_, _, _, _, _, _, _, _, _, _]) rfl (Rg.R1 w 9 (fun w3 => XS w3 p A ∧ Fr [p] w w3)) (ParC.VC [ParC.EQ (Value.pointer (some ⟨p, 0, none⟩)), ParC.EQ (Value.pointer (some ⟨p, 0, none⟩)), ParC.EQ (Value.int IntKind.u64 (x : Int)), ParC.EQ (Value.pointer (some ⟨p, 0, none⟩)), ParC.EQ (Value.pointer (some ⟨p, 0, none⟩)), ParC.EQ (Value.int IntKind.u64 (x : Int)), ParC.EQ (Value.int IntKind.u64 (s : Int)), ParC.EQ (Value.int IntKind.u64 (A : Int)), ParC.EQ (Value.pointer (some ⟨p, 0, none⟩)), fun _ => True]) (by kernel_rfl) (by kernel_rfl) (Rg.R1.start) ?_ ?_
 · refine ⟨fun L ρ w' hR hC hL hd hk => ?_, ?_⟩
   · exact Par.val_of_run rfl ⟨hR.other (by decide), hk.1⟩
   refine ⟨fun L ρ w' hR hC hL hd hk => ?_, ?_⟩
   · obtain ⟨(e0 : ρ (.tmp 3) = Value.pointer (some ⟨p, 0, none⟩)), -⟩ := hk; refine Par.val_k fun K hK => ?_; unfold Par.val
     (go_simp; exact hK _ _ ⟨hR.other (by decide), rfl⟩)
   refine ⟨fun L ρ w' hR hC hL hd hk => ?_, ?_⟩
   · obtain ⟨(e0 : ρ (.tmp 4) = Value.pointer (some ⟨p, 0, none⟩)), -⟩ := hk; refine Par.val_k fun K hK => ?_; unfold Par.val
     (have hx := hR.a (hC.notyet 9 2 hL (by kernel_rfl)); obtain ⟨cc, ff⟩ := XS.at (XS.ext hx HS.out); go_simp; exact hK _ _ ⟨hR.other (by decide), rfl⟩)
   refine ⟨fun L ρ w' hR hC hL hd hk => ?_, ?_⟩
   · exact Par.val_of_run rfl ⟨hR.other (by decide), hk.1⟩
   refine ⟨fun L ρ w' hR hC hL hd hk => ?_, ?_⟩
   · obtain ⟨(e0 : ρ (.tmp 6) = Value.pointer (some ⟨p, 0, none⟩)), -⟩ := hk; refine Par.val_k fun K hK => ?_; unfold Par.val
     (go_simp; exact hK _ _ ⟨hR.other (by decide), rfl⟩)
   refine ⟨fun L ρ w' hR hC hL hd hk => ?_, ?_⟩
   · obtain ⟨(e0 : ρ (.tmp 7) = Value.pointer (some ⟨p, 0, none⟩)), -⟩ := hk; refine Par.val_k fun K hK => ?_; unfold Par.val
     (have hx := hR.a (hC.notyet 9 5 hL (by kernel_rfl)); obtain ⟨cc, ff⟩ := XS.at (XS.ext hx HS.out); go_simp; exact hK _ _ ⟨hR.other (by decide), rfl⟩)
   refine ⟨fun L ρ w' hR hC hL hd hk => ?_, ?_⟩
   · obtain ⟨(e0 : ρ (.tmp 8) = Value.int IntKind.u64 (x : Int)), (e1 : ρ (Operand.const (Value.int IntKind.u64 13)) = (Value.int IntKind.u64 13)), -⟩ := hk; refine Par.val_k fun K hK => ?_; unfold Par.val
     (go_simp; exact hK _ _ ⟨hR.other (by decide), rfl⟩)
   refine ⟨fun L ρ w' hR hC hL hd hk => ?_, ?_⟩
   · obtain ⟨(e0 : ρ (.tmp 5) = Value.int IntKind.u64 (x : Int)), (e1 : ρ (.tmp 9) = Value.int IntKind.u64 (s : Int)), -⟩ := hk; refine Par.val_k fun K hK => ?_; unfold Par.val
     (go_simp; exact hK _ _ ⟨hR.other (by decide), rfl⟩)
   refine ⟨fun L ρ w' hR hC hL hd hk => ?_, ?_⟩
   · obtain ⟨(e0 : ρ (.tmp 3) = Value.pointer (some ⟨p, 0, none⟩)), -⟩ := hk; refine Par.val_k fun K hK => ?_; unfold Par.val
     (go_simp; exact hK _ _ ⟨hR.other (by decide), rfl⟩)
   refine ⟨fun L ρ w' hR hC hL hd hk => ?_, ?_⟩
   · obtain ⟨(e0 : ρ (.tmp 11) = Value.pointer (some ⟨p, 0, none⟩)), (e1 : ρ (.tmp 10) = Value.int IntKind.u64 (A : Int)), -⟩ := hk; refine Par.val_k fun K hK => ?_; unfold Par.val
     (have hx := hR.a hL; have hrow := XS.ext hx HS.out; obtain ⟨cc, ff⟩ := XS.at hrow; have hset := XS.set hrow A; have HSET := hid hset; clear hset hrow; go_simp; exact hK _ _ ⟨Rg.R1.last ⟨HSET.out.1, (Ext.fr hx).trans HSET.out.2⟩, trivial⟩)
   trivial
 intro a' w' inv hR
 have q3 : a'.tmps.getD 3 undef = Value.pointer (some ⟨p, 0, none⟩) := inv.done 0 _ 3 rfl rfl rfl
 have q4 : a'.tmps.getD 4 undef = Value.pointer (some ⟨p, 0, none⟩) := inv.done 1 _ 4 rfl rfl rfl
 have q5 : a'.tmps.getD 5 undef = Value.int IntKind.u64 (x : Int) := inv.done 2 _ 5 rfl rfl rfl
 have q6 : a'.tmps.getD 6 undef = Value.pointer (some ⟨p, 0, none⟩) := inv.done 3 _ 6 rfl rfl rfl
 have q7 : a'.tmps.getD 7 undef = Value.pointer (some ⟨p, 0, none⟩) := inv.done 4 _ 7 rfl rfl rfl
 have q8 : a'.tmps.getD 8 undef = Value.int IntKind.u64 (x : Int) := inv.done 5 _ 8 rfl rfl rfl
 have q9 : a'.tmps.getD 9 undef = Value.int IntKind.u64 (s : Int) := inv.done 6 _ 9 rfl rfl rfl
 have q10 : a'.tmps.getD 10 undef = Value.int IntKind.u64 (A : Int) := inv.done 7 _ 10 rfl rfl rfl
 have q11 : a'.tmps.getD 11 undef = Value.pointer (some ⟨p, 0, none⟩) := inv.done 8 _ 11 rfl rfl rfl
 clear inv
 simp only [List.filterMap_cons, List.filterMap_nil, Par.putAll, Act.put, List.setIfInBounds_toArray, List.set_cons_succ, List.set_cons_zero, q3, q4, q5, q6, q7, q8, q9, q10, q11]
 clear q3 q4 q5 q6 q7 q8 q9 q10 q11
 obtain ⟨hrd, hf⟩ := hR.z rfl; have HS2 := hid hrd; have HF2 := hid (HF.out.trans hf); clear hrd hf hR HS HF
 try clear a'
 have HS := HS2
 have HF := HF2
 clear HS2 HF2
 go_wp2_with fail
 refine ParE.wp_region_e (l := [_, _, _, _, _, _, _, _, _, _]) rfl (Rg.R1 w' 9 (fun w3 => XS w3 p C ∧ Fr [p] w' w3)) (ParC.VC [ParC.EQ (Value.pointer (some ⟨p, 0, none⟩)), ParC.EQ (Value.pointer (some ⟨p, 0, none⟩)), ParC.EQ (Value.int IntKind.u64 (A : Int)), ParC.EQ (Value.pointer (some ⟨p, 0, none⟩)), ParC.EQ (Value.pointer (some ⟨p, 0, none⟩)), ParC.EQ (Value.int IntKind.u64 (A : Int)), ParC.EQ (Value.int IntKind.u64 (t : Int)), ParC.EQ (Value.int IntKind.u64 (C : Int)), ParC.EQ (Value.pointer (some ⟨p, 0, none⟩)), fun _ => True]) (by kernel_rfl) (by kernel_rfl) (Rg.R1.start) ?_ ?_
 · refine ⟨fun L ρ w' hR hC hL hd hk => ?_, ?_⟩
   · exact Par.val_of_run rfl ⟨hR.other (by decide), hk.1⟩
   refine ⟨fun L ρ w' hR hC hL hd hk => ?_, ?_⟩
   · obtain ⟨(e0 : ρ (.tmp 12) = Value.pointer (some ⟨p, 0, none⟩)), -⟩ := hk; refine Par.val_k fun K hK => ?_; unfold Par.val
     (go_simp; exact hK _ _ ⟨hR.other (by decide), rfl⟩)
   refine ⟨fun L ρ w' hR hC hL hd hk => ?_, ?_⟩
   · obtain ⟨(e0 : ρ (.tmp 13) = Value.pointer (some ⟨p, 0, none⟩)), -⟩ := hk; refine Par.val_k fun K hK => ?_; unfold Par.val
     (have hx := hR.a (hC.notyet 9 2 hL (by kernel_rfl)); obtain ⟨cc, ff⟩ := XS.at (XS.ext hx HS.out); go_simp; exact hK _ _ ⟨hR.other (by decide), rfl⟩)
   refine ⟨fun L ρ w' hR hC hL hd hk => ?_, ?_⟩
   · exact Par.val_of_run rfl ⟨hR.other (by decide), hk.1⟩
   refine ⟨fun L ρ w' hR hC hL hd hk => ?_, ?_⟩
   · obtain ⟨(e0 : ρ (.tmp 15) = Value.pointer (some ⟨p, 0, none⟩)), -⟩ := hk; refine Par.val_k fun K hK => ?_; unfold Par.val
     (go_simp; exact hK _ _ ⟨hR.other (by decide), rfl⟩)
   refine ⟨fun L ρ w' hR hC hL hd hk => ?_, ?_⟩
   · obtain ⟨(e0 : ρ (.tmp 16) = Value.pointer (some ⟨p, 0, none⟩)), -⟩ := hk; refine Par.val_k fun K hK => ?_; unfold Par.val
     (have hx := hR.a (hC.notyet 9 5 hL (by kernel_rfl)); obtain ⟨cc, ff⟩ := XS.at (XS.ext hx HS.out); go_simp; exact hK _ _ ⟨hR.other (by decide), rfl⟩)
   refine ⟨fun L ρ w' hR hC hL hd hk => ?_, ?_⟩
   · obtain ⟨(e0 : ρ (.tmp 17) = Value.int IntKind.u64 (A : Int)), (e1 : ρ (Operand.const (Value.int IntKind.u64 7)) = (Value.int IntKind.u64 7)), -⟩ := hk; refine Par.val_k fun K hK => ?_; unfold Par.val
     (go_simp; exact hK _ _ ⟨hR.other (by decide), rfl⟩)
   refine ⟨fun L ρ w' hR hC hL hd hk => ?_, ?_⟩
   · obtain ⟨(e0 : ρ (.tmp 14) = Value.int IntKind.u64 (A : Int)), (e1 : ρ (.tmp 18) = Value.int IntKind.u64 (t : Int)), -⟩ := hk; refine Par.val_k fun K hK => ?_; unfold Par.val
     (go_simp; exact hK _ _ ⟨hR.other (by decide), rfl⟩)
   refine ⟨fun L ρ w' hR hC hL hd hk => ?_, ?_⟩
   · obtain ⟨(e0 : ρ (.tmp 12) = Value.pointer (some ⟨p, 0, none⟩)), -⟩ := hk; refine Par.val_k fun K hK => ?_; unfold Par.val
     (go_simp; exact hK _ _ ⟨hR.other (by decide), rfl⟩)
   refine ⟨fun L ρ w' hR hC hL hd hk => ?_, ?_⟩
   · obtain ⟨(e0 : ρ (.tmp 20) = Value.pointer (some ⟨p, 0, none⟩)), (e1 : ρ (.tmp 19) = Value.int IntKind.u64 (C : Int)), -⟩ := hk; refine Par.val_k fun K hK => ?_; unfold Par.val
     (have hx := hR.a hL; have hrow := XS.ext hx HS.out; obtain ⟨cc, ff⟩ := XS.at hrow; have hset := XS.set hrow C; have HSET := hid hset; clear hset hrow; go_simp; exact hK _ _ ⟨Rg.R1.last ⟨HSET.out.1, (Ext.fr hx).trans HSET.out.2⟩, trivial⟩)
   trivial
 intro a' w' inv hR
 have q12 : a'.tmps.getD 12 undef = Value.pointer (some ⟨p, 0, none⟩) := inv.done 0 _ 12 rfl rfl rfl
 have q13 : a'.tmps.getD 13 undef = Value.pointer (some ⟨p, 0, none⟩) := inv.done 1 _ 13 rfl rfl rfl
 have q14 : a'.tmps.getD 14 undef = Value.int IntKind.u64 (A : Int) := inv.done 2 _ 14 rfl rfl rfl
 have q15 : a'.tmps.getD 15 undef = Value.pointer (some ⟨p, 0, none⟩) := inv.done 3 _ 15 rfl rfl rfl
 have q16 : a'.tmps.getD 16 undef = Value.pointer (some ⟨p, 0, none⟩) := inv.done 4 _ 16 rfl rfl rfl
 have q17 : a'.tmps.getD 17 undef = Value.int IntKind.u64 (A : Int) := inv.done 5 _ 17 rfl rfl rfl
 have q18 : a'.tmps.getD 18 undef = Value.int IntKind.u64 (t : Int) := inv.done 6 _ 18 rfl rfl rfl
 have q19 : a'.tmps.getD 19 undef = Value.int IntKind.u64 (C : Int) := inv.done 7 _ 19 rfl rfl rfl
 have q20 : a'.tmps.getD 20 undef = Value.pointer (some ⟨p, 0, none⟩) := inv.done 8 _ 20 rfl rfl rfl
 clear inv
 simp only [List.filterMap_cons, List.filterMap_nil, Par.putAll, Act.put, List.setIfInBounds_toArray, List.set_cons_succ, List.set_cons_zero, q12, q13, q14, q15, q16, q17, q18, q19, q20]
 clear q12 q13 q14 q15 q16 q17 q18 q19 q20
 obtain ⟨hrd, hf⟩ := hR.z rfl; have HS2 := hid hrd; have HF2 := hid (HF.out.trans hf); clear hrd hf hR HS HF
 try clear a'
 have HS := HS2
 have HF := HF2
 clear HS2 HF2
 go_wp2_with fail
 refine ParE.wp_region_e (l := [_, _, _, _, _, _, _, _, _, _]) rfl (Rg.R1 w' 9 (fun w3 => XS w3 p E ∧ Fr [p] w' w3)) (ParC.VC [ParC.EQ (Value.pointer (some ⟨p, 0, none⟩)), ParC.EQ (Value.pointer (some ⟨p, 0, none⟩)), ParC.EQ (Value.int IntKind.u64 (C : Int)), ParC.EQ (Value.pointer (some ⟨p, 0, none⟩)), ParC.EQ (Value.pointer (some ⟨p, 0, none⟩)), ParC.EQ (Value.int IntKind.u64 (C : Int)), ParC.EQ (Value.int IntKind.u64 (u : Int)), ParC.EQ (Value.int IntKind.u64 (E : Int)), ParC.EQ (Value.pointer (some ⟨p, 0, none⟩)), fun _ => True]) (by kernel_rfl) (by kernel_rfl) (Rg.R1.start) ?_ ?_
 · refine ⟨fun L ρ w' hR hC hL hd hk => ?_, ?_⟩
   · exact Par.val_of_run rfl ⟨hR.other (by decide), hk.1⟩
   refine ⟨fun L ρ w' hR hC hL hd hk => ?_, ?_⟩
   · obtain ⟨(e0 : ρ (.tmp 21) = Value.pointer (some ⟨p, 0, none⟩)), -⟩ := hk; refine Par.val_k fun K hK => ?_; unfold Par.val
     (go_simp; exact hK _ _ ⟨hR.other (by decide), rfl⟩)
   refine ⟨fun L ρ w' hR hC hL hd hk => ?_, ?_⟩
   · obtain ⟨(e0 : ρ (.tmp 22) = Value.pointer (some ⟨p, 0, none⟩)), -⟩ := hk; refine Par.val_k fun K hK => ?_; unfold Par.val
     (have hx := hR.a (hC.notyet 9 2 hL (by kernel_rfl)); obtain ⟨cc, ff⟩ := XS.at (XS.ext hx HS.out); go_simp; exact hK _ _ ⟨hR.other (by decide), rfl⟩)
   refine ⟨fun L ρ w' hR hC hL hd hk => ?_, ?_⟩
   · exact Par.val_of_run rfl ⟨hR.other (by decide), hk.1⟩
   refine ⟨fun L ρ w' hR hC hL hd hk => ?_, ?_⟩
   · obtain ⟨(e0 : ρ (.tmp 24) = Value.pointer (some ⟨p, 0, none⟩)), -⟩ := hk; refine Par.val_k fun K hK => ?_; unfold Par.val
     (go_simp; exact hK _ _ ⟨hR.other (by decide), rfl⟩)
   refine ⟨fun L ρ w' hR hC hL hd hk => ?_, ?_⟩
   · obtain ⟨(e0 : ρ (.tmp 25) = Value.pointer (some ⟨p, 0, none⟩)), -⟩ := hk; refine Par.val_k fun K hK => ?_; unfold Par.val
     (have hx := hR.a (hC.notyet 9 5 hL (by kernel_rfl)); obtain ⟨cc, ff⟩ := XS.at (XS.ext hx HS.out); go_simp; exact hK _ _ ⟨hR.other (by decide), rfl⟩)
   refine ⟨fun L ρ w' hR hC hL hd hk => ?_, ?_⟩
   · obtain ⟨(e0 : ρ (.tmp 26) = Value.int IntKind.u64 (C : Int)), (e1 : ρ (Operand.const (Value.int IntKind.u64 17)) = (Value.int IntKind.u64 17)), -⟩ := hk; refine Par.val_k fun K hK => ?_; unfold Par.val
     (go_simp; exact hK _ _ ⟨hR.other (by decide), rfl⟩)
   refine ⟨fun L ρ w' hR hC hL hd hk => ?_, ?_⟩
   · obtain ⟨(e0 : ρ (.tmp 23) = Value.int IntKind.u64 (C : Int)), (e1 : ρ (.tmp 27) = Value.int IntKind.u64 (u : Int)), -⟩ := hk; refine Par.val_k fun K hK => ?_; unfold Par.val
     (go_simp; exact hK _ _ ⟨hR.other (by decide), rfl⟩)
   refine ⟨fun L ρ w' hR hC hL hd hk => ?_, ?_⟩
   · obtain ⟨(e0 : ρ (.tmp 21) = Value.pointer (some ⟨p, 0, none⟩)), -⟩ := hk; refine Par.val_k fun K hK => ?_; unfold Par.val
     (go_simp; exact hK _ _ ⟨hR.other (by decide), rfl⟩)
   refine ⟨fun L ρ w' hR hC hL hd hk => ?_, ?_⟩
   · obtain ⟨(e0 : ρ (.tmp 29) = Value.pointer (some ⟨p, 0, none⟩)), (e1 : ρ (.tmp 28) = Value.int IntKind.u64 (E : Int)), -⟩ := hk; refine Par.val_k fun K hK => ?_; unfold Par.val
     (have hx := hR.a hL; have hrow := XS.ext hx HS.out; obtain ⟨cc, ff⟩ := XS.at hrow; have hset := XS.set hrow E; have HSET := hid hset; clear hset hrow; go_simp; exact hK _ _ ⟨Rg.R1.last ⟨HSET.out.1, (Ext.fr hx).trans HSET.out.2⟩, trivial⟩)
   trivial
 intro a' w' inv hR
 have q21 : a'.tmps.getD 21 undef = Value.pointer (some ⟨p, 0, none⟩) := inv.done 0 _ 21 rfl rfl rfl
 have q22 : a'.tmps.getD 22 undef = Value.pointer (some ⟨p, 0, none⟩) := inv.done 1 _ 22 rfl rfl rfl
 have q23 : a'.tmps.getD 23 undef = Value.int IntKind.u64 (C : Int) := inv.done 2 _ 23 rfl rfl rfl
 have q24 : a'.tmps.getD 24 undef = Value.pointer (some ⟨p, 0, none⟩) := inv.done 3 _ 24 rfl rfl rfl
 have q25 : a'.tmps.getD 25 undef = Value.pointer (some ⟨p, 0, none⟩) := inv.done 4 _ 25 rfl rfl rfl
 have q26 : a'.tmps.getD 26 undef = Value.int IntKind.u64 (C : Int) := inv.done 5 _ 26 rfl rfl rfl
 have q27 : a'.tmps.getD 27 undef = Value.int IntKind.u64 (u : Int) := inv.done 6 _ 27 rfl rfl rfl
 have q28 : a'.tmps.getD 28 undef = Value.int IntKind.u64 (E : Int) := inv.done 7 _ 28 rfl rfl rfl
 have q29 : a'.tmps.getD 29 undef = Value.pointer (some ⟨p, 0, none⟩) := inv.done 8 _ 29 rfl rfl rfl
 clear inv
 simp only [List.filterMap_cons, List.filterMap_nil, Par.putAll, Act.put, List.setIfInBounds_toArray, List.set_cons_succ, List.set_cons_zero, q21, q22, q23, q24, q25, q26, q27, q28, q29]
 clear q21 q22 q23 q24 q25 q26 q27 q28 q29
 obtain ⟨hrd, hf⟩ := hR.z rfl; have HS2 := hid hrd; have HF2 := hid (HF.out.trans hf); clear hrd hf hR HS HF
 try clear a'
 have HS := HS2
 have HF := HF2
 clear HS2 HF2
 obtain ⟨cc, ff⟩ := XS.at HS.out
 go_wp2
 go_returns
 exact ⟨⟨E, rfl, lE, HS.out⟩, HF.out⟩
theorem wrapP (k : Nat) (hk : k ≤ 62) : IntKind.u64.wrap ((2 : Int) ^ k) = ((2 ^ k : Nat) : Int) := by
 have h : (2 : Nat) ^ k ≤ 2 ^ 62 := Nat.pow_le_pow_right (by decide) hk
 rw [IntKind.wrap_u64, show ((2 : Int) ^ k) = ((2 ^ k : Nat) : Int) by push_cast; rfl]
 generalize (2 : Nat) ^ k = p at h
 omega
theorem npowV_any (n : Nat) (hn1 : 0 < n) (hn : n ≤ 4611686018427387903) (w : World) :
 Calls Tryz.prog 146 #[.int .i64 (n : Int)] w fun e w' => (∃ m : Nat, e = .returned (.int .u64 (m : Int)) ∧ 0 < m ∧ m ≤ 2 * n) ∧ w' = w := by
 have hk : bitsLen n ≤ 62 := (bitsLen_le_iff n 62).2 (by omega)
 have hp := wrapP (bitsLen n) hk
 have h2 := two_pow_bitsLen_le hn1
 have h3 : 0 < 2 ^ bitsLen n := Nat.two_pow_pos _
 have hLen : ∀ w, Calls Tryz.prog 95 #[.int .u64 (n : Int)] w fun e w' => e = .returned (.int .i64 (bitsLen n : Nat)) ∧ w' = w := fun w => by
  have h := Tryz.bits_Len (n : Int) w (by omega) (by omega)
  rwa [Int.toNat_natCast, bitLen_eq _ (by omega)] at h
 have HL := hid hLen
 have H2 := hid h2
 have H3 := hid h3
 have hwn : IntKind.u64.wrap (n : Int) = (n : Int) := by rw [IntKind.wrap_u64]; omega
 obtain ⟨m, hm⟩ : ∃ m, m = 2 ^ bitsLen n := ⟨_, rfl⟩
 rw [← hm] at hp
 have HM := hid hm
 clear hLen h2 h3 hm
 go_enter Tryz.func146, Tryz.ntmps146
 go_wp2_with fail
 refine (HL.out w).mono ?_
 rintro e w1 ⟨rfl, rfl⟩
 go_wp2
 go_returns
 exact ⟨⟨m, rfl, by rw [HM.out]; exact H3.out, by rw [HM.out]; exact H2.out⟩, rfl⟩
end Go.Proofs.YtmbigiihcplcjaaGreatDoor

set_option linter.unusedSimpArgs false
set_option linter.unusedVariables false
namespace Go.Proofs.YtmbigiihcplcjaaGreatDoor
open Go Go.RowKit Go.Tum Go.ChangeMaps Go.Sort
open Go.ParB (upd Lof)
open Go.ParE (putS slotsR slots Closed)

set_option maxRecDepth 100000 in
set_option maxHeartbeats 4000000 in
theorem brkV_any {B : Nat} {w : World} (g n cap a b : Nat) (d0 : Array UInt64) (h : RA w B g n cap d0) (hab : a + 12 < b) (hbn : b ≤ n) (hbig : n ≤ 4611686018427387903) :
 Calls Tryz.prog 117 #[.slice (some ⟨g, 0, none⟩) n cap, .int .i64 (a : Int), .int .i64 (b : Int)] w fun e w' =>
  (∃ u, e = .returned u) ∧ (∃ d', PermIn a b d0 d' ∧ RA w' B g n cap d') ∧ Fr [g] w w' := by
 have HR := hid h
 have hds := h.size
 obtain ⟨l, hl⟩ : ∃ l, l = b - a := ⟨_, rfl⟩
 obtain ⟨q, hq⟩ : ∃ q, q = l / 4 := ⟨_, rfl⟩
 obtain ⟨q2, hq2⟩ : ∃ q2, q2 = q * 2 := ⟨_, rfl⟩
 obtain ⟨c, hc⟩ : ∃ c, c = a + q2 := ⟨_, rfl⟩
 obtain ⟨c0, hc0⟩ : ∃ c0, c0 + 1 = c := ⟨c - 1, by omega⟩
 obtain ⟨c1, hc1⟩ : ∃ c1, c1 = c + 1 := ⟨_, rfl⟩
 have hwl : IntKind.i64.wrap ((b : Int) - (a : Int)) = (l : Int) := i64v _ (by omega) (by omega)
 have hwlu : IntKind.u64.wrap (l : Int) = (l : Int) := by rw [IntKind.wrap_u64]; omega
 have hwq : IntKind.i64.wrap ((l : Int) / 4) = (q : Int) := i64v _ (by omega) (by omega)
 have hwq2 : IntKind.i64.wrap ((q : Int) * 2) = (q2 : Int) := i64v _ (by omega) (by omega)
 have hwc : IntKind.i64.wrap ((a : Int) + (q2 : Int)) = (c : Int) := i64v _ (by omega) (by omega)
 have hwc0 : IntKind.i64.wrap ((c : Int) - 1) = (c0 : Int) := i64v _ (by omega) (by omega)
 have hwc1 : IntKind.i64.wrap ((c : Int) + 1) = (c1 : Int) := i64v _ (by omega) (by omega)
 have hl8 : 8 ≤ l := by omega
 have HL := hid (show l = b - a ∧ a ≤ c0 ∧ c1 < b ∧ c0 ≤ c1 ∧ l ≤ 4611686018427387903 by omega)
 have hg : g < w.heap.size := h.lt
 have HG := hid hg
 have HE0 : Hid (Ext w (w.alloc (.cells #[.int .u64 (l : Int)] 196))) := hid (Ext.alloc _ _)
 clear h hl hq hq2 hc hc0 hc1 hg
 go_enter Tryz.func117, Tryz.ntmps117
 have HX0 : Hid (XS (w.alloc (.cells #[.int .u64 (l : Int)] 196)) w.heap.size l) := hid (heap_alloc_new _ _)
 have hd8 : decide ((8 : Int) ≤ (l : Int)) = true := by simp; omega
 go_wp2_with fail
 refine (npowV_any l (by omega) HL.out.2.2.2.2 _).mono ?_
 rintro e w1 ⟨⟨m, rfl, hm0, hm2⟩, rfl⟩
 obtain ⟨p, hp⟩ : ∃ p, p = w.heap.size := ⟨_, rfl⟩
 have HP := hid hp
 have HPG : Hid (p ≠ g) := hid (by have := HG.out; omega)
 obtain ⟨m1, hm1⟩ : ∃ m1, m1 + 1 = m := ⟨m - 1, by omega⟩
 have hwm : IntKind.u64.wrap ((m : Int) - 1) = (m1 : Int) := by rw [IntKind.wrap_u64]; have := HL.out.2.2.2.2; omega
 have HM := hid (show m1 < 2 * l ∧ m1 < 18446744073709551616 by have := HL.out.2.2.2.2; omega)
 have HR0 : Hid (RA (w.alloc (.cells #[.int .u64 (l : Int)] 196)) B g n cap d0) := hid (RA.ext HE0.out HR.out)
 have HX1 : Hid (XS (w.alloc (.cells #[.int .u64 (l : Int)] 196)) p l) := hid (by rw [hp]; exact HX0.out)
 rw [← hp]
 clear hp hm1 hm0 hm2 HR
 generalize w.alloc (.cells #[.int .u64 (l : Int)] 196) = w0 at *
 have HD0 := hid hds
 clear hds
 go_wp2_with fail
 go_loopw [9] (fun iv wr => ∃ (i : Nat) (d : Array UInt64), c0 ≤ i ∧ i ≤ c1 + 1 ∧ iv = .int .i64 (i : Int) ∧ Hid (RA wr B g n cap d) ∧ Hid (PermIn a b d0 d) ∧ Hid (∃ y, XS wr p y ∧ y < 18446744073709551616) ∧ Hid (Fr [g, p] w0 wr)) (fun iv _ => c1 + 1 - (intOf iv).toNat)
 case atStart => exact ⟨c0, d0, Nat.le_refl _, by have := HL.out; omega, by first | rfl | go_num, HR0, hid (permIn_refl _ _ _), hid ⟨l, HX1.out, by have := HL.out; omega⟩, hid (Fr.refl _ _)⟩
 case round =>
  clear HR0 HX0 HX1
  obtain ⟨i, d, hi0, hi1, rfl, HR, HPM, HX, HFo⟩ := hrel
  have HDS : Hid (d.size = n) := hid HR.out.size
  rcases Nat.lt_or_ge c1 i with hci | hci
  · have hcm : (i ≤ c1) = False := by simp; omega
    go_wp2
    go_returns
    exact ⟨⟨_, rfl⟩, ⟨d, HPM.out, HR.out⟩, ((Ext.fr HE0.out).trans HFo.out).wider (by intro x hx; simp at hx; rcases hx with h | h; (left; simp [h]); (right; rw [h, HP.out]; exact Nat.le_refl _))⟩
  · have hwi : IntKind.i64.wrap ((i : Int) + 1) = ((i + 1 : Nat) : Int) := i64v _ (by have := HL.out; omega) (by have := HL.out; omega)
    have hin : i < n := by have := HL.out; omega
    have hin2 : (i : Int) < n := by omega
    obtain ⟨y, hy⟩ := HX.out
    have HY := hid hy
    clear hy
    go_wp2_with fail
    refine (xorV_any p y HY.out.1 HY.out.2).mono ?_
    rintro e w1 ⟨⟨y2, rfl, hy2, hxs⟩, hf⟩
    have HX2 := hid (And.intro hxs hy2)
    have HR2 : Hid (RA w1 B g n cap d) := hid (RA.fr hf HPG.out HR.out)
    have HFo2 := hid (HFo.out.trans (hf.mono (T := [g, p]) (by simp)))
    clear hxs hy2 hf HR HFo HX HY
    have HR := HR2
    have HF : Hid (Fr [g] w1 w1) := hid (Fr.refl _ _)
    clear HR2
    obtain ⟨o, ho⟩ : ∃ o, o = y2 &&& m1 := ⟨_, rfl⟩
    have hom : o ≤ m1 := by rw [ho]; exact Nat.and_le_right
    have hand : bits .and .u64 (y2 : Int) (m1 : Int) = (o : Int) := by rw [bits_and_u64_nat _ _ HX2.out.2 HM.out.2, ho]
    have hwo : IntKind.i64.wrap (o : Int) = (o : Int) := i64v _ rfl (by have := HM.out; have := HL.out; omega)
    have HOM := hid hom
    clear ho hom
    rcases Nat.lt_or_ge o l with hol | hol
    · have hcm : (l ≤ o) = False := by simp; omega
      have hdl : decide ((l : Int) ≤ (o : Int)) = false := by simp; omega
      obtain ⟨r, hr⟩ : ∃ r, r = a + o := ⟨_, rfl⟩
      have hwr : IntKind.i64.wrap ((a : Int) + (o : Int)) = (r : Int) := i64v _ (by have := HL.out; omega) (by have := HL.out; omega)
      have hrb : a ≤ r ∧ r < b := by have := HL.out; omega
      have hrn : r < n := by omega
      have hrn2 : (r : Int) < n := by omega
      have HRB := hid hrb
      clear hr hrb
      obtain ⟨zi, Hzi, HCzi⟩ := cellV (B := B) (g := g) (n := n) (cap := cap) d i (by omega)
      obtain ⟨zr, Hzr, HCzr⟩ := cellV (B := B) (g := g) (n := n) (cap := cap) d r (by omega)
      go_wp2_with fail
      refine ParE.wp_region_e (l := [_, _, _, _, _, _, _, _, _, _, _, _, _, _, _, _, _, _, _, _]) rfl (Rg.Ch [17, 19] [] (SwV _ B g n cap i r zi zr d)) (ParC.VC [ParC.EQ (Value.slice (some ⟨g, 0, none⟩) n cap), ParC.EQ (Value.int IntKind.i64 (i : Int)), ParC.EQ (Value.slice (some ⟨g, 0, none⟩) n cap), ParC.EQ (Value.int IntKind.i64 (a : Int)), ParC.EQ (Value.int IntKind.i64 (o : Int)), ParC.EQ (Value.int IntKind.i64 (r : Int)), ParC.EQ (Value.slice (some ⟨g, 0, none⟩) n cap), ParC.EQ (Value.int IntKind.i64 (a : Int)), ParC.EQ (Value.int IntKind.i64 (o : Int)), ParC.EQ (Value.int IntKind.i64 (r : Int)), ParC.EQ (Value.pointer (some ⟨g, r, none⟩)), ParC.EQ (uv zr), ParC.EQ (Value.slice (some ⟨g, 0, none⟩) n cap), ParC.EQ (Value.int IntKind.i64 (i : Int)), ParC.EQ (Value.pointer (some ⟨g, i, none⟩)), ParC.EQ (uv zi), ParC.EQ (Value.pointer (some ⟨g, i, none⟩)), fun _ => True, ParC.EQ (Value.pointer (some ⟨g, r, none⟩)), fun _ => True]) (by kernel_rfl) (by kernel_rfl) (Rg.Ch.start ⟨fun _ => Ext.draw _, trivial⟩) ?_ ?_
      · refine ⟨fun L ρ w' hR hC hL hd hk => ?_, ?_⟩
        · exact Par.val_of_run rfl ⟨hR.other (by decide), hk.1⟩
        refine ⟨fun L ρ w' hR hC hL hd hk => ?_, ?_⟩
        · exact Par.val_of_run rfl ⟨hR.other (by decide), hk.1⟩
        refine ⟨fun L ρ w' hR hC hL hd hk => ?_, ?_⟩
        · exact Par.val_of_run rfl ⟨hR.other (by decide), hk.1⟩
        refine ⟨fun L ρ w' hR hC hL hd hk => ?_, ?_⟩
        · exact Par.val_of_run rfl ⟨hR.other (by decide), hk.1⟩
        refine ⟨fun L ρ w' hR hC hL hd hk => ?_, ?_⟩
        · exact Par.val_of_run rfl ⟨hR.other (by decide), hk.1⟩
        refine ⟨fun L ρ w' hR hC hL hd hk => ?_, ?_⟩
        · obtain ⟨(e0 : ρ (.tmp 50) = Value.int IntKind.i64 (a : Int)), (e1 : ρ (.tmp 51) = Value.int IntKind.i64 (o : Int)), -⟩ := hk; refine Par.val_k fun K hK => ?_; unfold Par.val
          (go_simp; exact hK _ _ ⟨hR.other (by decide), rfl⟩)
        refine ⟨fun L ρ w' hR hC hL hd hk => ?_, ?_⟩
        · exact Par.val_of_run rfl ⟨hR.other (by decide), hk.1⟩
        refine ⟨fun L ρ w' hR hC hL hd hk => ?_, ?_⟩
        · exact Par.val_of_run rfl ⟨hR.other (by decide), hk.1⟩
        refine ⟨fun L ρ w' hR hC hL hd hk => ?_, ?_⟩
        · exact Par.val_of_run rfl ⟨hR.other (by decide), hk.1⟩
        refine ⟨fun L ρ w' hR hC hL hd hk => ?_, ?_⟩
        · obtain ⟨(e0 : ρ (.tmp 54) = Value.int IntKind.i64 (a : Int)), (e1 : ρ (.tmp 55) = Value.int IntKind.i64 (o : Int)), -⟩ := hk; refine Par.val_k fun K hK => ?_; unfold Par.val
          (go_simp; exact hK _ _ ⟨hR.other (by decide), rfl⟩)
        refine ⟨fun L ρ w' hR hC hL hd hk => ?_, ?_⟩
        · obtain ⟨(e0 : ρ (.tmp 53) = Value.slice (some ⟨g, 0, none⟩) n cap), (e1 : ρ (.tmp 56) = Value.int IntKind.i64 (r : Int)), -⟩ := hk; refine Par.val_k fun K hK => ?_; unfold Par.val
          (go_simp; exact hK _ _ ⟨hR.other (by decide), rfl⟩)
        refine ⟨fun L ρ w' hR hC hL hd hk => ?_, ?_⟩
        · obtain ⟨(e0 : ρ (.tmp 57) = Value.pointer (some ⟨g, r, none⟩)), -⟩ := hk; refine Par.val_k fun K hK => ?_; unfold Par.val
          (obtain ⟨ii, hii, hq⟩ := hR.some 0 rfl (hC.notyet 17 11 hL (by kernel_rfl)); have cc := HCzr.out _ (RA.ext (hq.1 (by omega)) HR.out); go_simp; exact hK _ _ ⟨hR.other (by decide), rfl⟩)
        refine ⟨fun L ρ w' hR hC hL hd hk => ?_, ?_⟩
        · exact Par.val_of_run rfl ⟨hR.other (by decide), hk.1⟩
        refine ⟨fun L ρ w' hR hC hL hd hk => ?_, ?_⟩
        · exact Par.val_of_run rfl ⟨hR.other (by decide), hk.1⟩
        refine ⟨fun L ρ w' hR hC hL hd hk => ?_, ?_⟩
        · obtain ⟨(e0 : ρ (.tmp 59) = Value.slice (some ⟨g, 0, none⟩) n cap), (e1 : ρ (.tmp 60) = Value.int IntKind.i64 (i : Int)), -⟩ := hk; refine Par.val_k fun K hK => ?_; unfold Par.val
          (go_simp; exact hK _ _ ⟨hR.other (by decide), rfl⟩)
        refine ⟨fun L ρ w' hR hC hL hd hk => ?_, ?_⟩
        · obtain ⟨(e0 : ρ (.tmp 61) = Value.pointer (some ⟨g, i, none⟩)), -⟩ := hk; refine Par.val_k fun K hK => ?_; unfold Par.val
          (obtain ⟨ii, hii, hq⟩ := hR.some 0 rfl (hC.notyet 17 15 hL (by kernel_rfl)); have cc := HCzi.out _ (RA.ext (hq.1 (by omega)) HR.out); go_simp; exact hK _ _ ⟨hR.other (by decide), rfl⟩)
        refine ⟨fun L ρ w' hR hC hL hd hk => ?_, ?_⟩
        · obtain ⟨(e0 : ρ (.tmp 47) = Value.slice (some ⟨g, 0, none⟩) n cap), (e1 : ρ (.tmp 48) = Value.int IntKind.i64 (i : Int)), -⟩ := hk; refine Par.val_k fun K hK => ?_; unfold Par.val
          (go_simp; exact hK _ _ ⟨hR.other (by decide), rfl⟩)
        refine ⟨fun L ρ w' hR hC hL hd hk => ?_, ?_⟩
        · obtain ⟨(e0 : ρ (.tmp 63) = Value.pointer (some ⟨g, i, none⟩)), (e1 : ρ (.tmp 58) = uv zr), -⟩ := hk; refine Par.val_k fun K hK => ?_; unfold Par.val
          (obtain ⟨hq, hs⟩ := hR.go 0 rfl hL (.inl rfl) (by decide); have hx := hq.1 (by decide); have hrow := RA.ext hx HR.out; obtain ⟨cc, ff⟩ := hrow.at (j := i) (by omega); obtain ⟨hset, hfs⟩ := hrow.set i zr; have HSET := hid hset; have HFS := hid hfs; clear hset hfs hrow; go_simp; exact hK _ _ ⟨hs none _ _ ⟨fun h => absurd h (by decide), HSET.out, (Ext.fr hx).trans HFS.out⟩, trivial⟩)
        refine ⟨fun L ρ w' hR hC hL hd hk => ?_, ?_⟩
        · obtain ⟨(e0 : ρ (.tmp 49) = Value.slice (some ⟨g, 0, none⟩) n cap), (e1 : ρ (.tmp 52) = Value.int IntKind.i64 (r : Int)), -⟩ := hk; refine Par.val_k fun K hK => ?_; unfold Par.val
          (go_simp; exact hK _ _ ⟨hR.other (by decide), rfl⟩)
        refine ⟨fun L ρ w' hR hC hL hd hk => ?_, ?_⟩
        · obtain ⟨(e0 : ρ (.tmp 64) = Value.pointer (some ⟨g, r, none⟩)), (e1 : ρ (.tmp 62) = uv zi), -⟩ := hk; refine Par.val_k fun K hK => ?_; unfold Par.val
          (obtain ⟨hq, hs⟩ := hR.go 1 rfl hL (.inr ⟨17, rfl, hC.before 17 (i := 19) rfl hd (by kernel_rfl)⟩) (by decide); obtain ⟨hrow, hfr⟩ := hq.2; obtain ⟨cc, ff⟩ := hrow.at (j := r) (by omega); obtain ⟨hset, hfs⟩ := hrow.set r zi; have HSET := hid hset; have HFS := hid hfs; have HFR := hid hfr; clear hset hfs hrow hfr; go_simp; exact hK _ _ ⟨hs none _ _ ⟨fun h => absurd h (by decide), HSET.out, HFR.out.trans HFS.out⟩, trivial⟩)
        trivial
      intro a' w' inv hR
      have q47 : a'.tmps.getD 47 undef = Value.slice (some ⟨g, 0, none⟩) n cap := inv.done 0 _ 47 rfl rfl rfl
      have q48 : a'.tmps.getD 48 undef = Value.int IntKind.i64 (i : Int) := inv.done 1 _ 48 rfl rfl rfl
      have q49 : a'.tmps.getD 49 undef = Value.slice (some ⟨g, 0, none⟩) n cap := inv.done 2 _ 49 rfl rfl rfl
      have q50 : a'.tmps.getD 50 undef = Value.int IntKind.i64 (a : Int) := inv.done 3 _ 50 rfl rfl rfl
      have q51 : a'.tmps.getD 51 undef = Value.int IntKind.i64 (o : Int) := inv.done 4 _ 51 rfl rfl rfl
      have q52 : a'.tmps.getD 52 undef = Value.int IntKind.i64 (r : Int) := inv.done 5 _ 52 rfl rfl rfl
      have q53 : a'.tmps.getD 53 undef = Value.slice (some ⟨g, 0, none⟩) n cap := inv.done 6 _ 53 rfl rfl rfl
      have q54 : a'.tmps.getD 54 undef = Value.int IntKind.i64 (a : Int) := inv.done 7 _ 54 rfl rfl rfl
      have q55 : a'.tmps.getD 55 undef = Value.int IntKind.i64 (o : Int) := inv.done 8 _ 55 rfl rfl rfl
      have q56 : a'.tmps.getD 56 undef = Value.int IntKind.i64 (r : Int) := inv.done 9 _ 56 rfl rfl rfl
      have q57 : a'.tmps.getD 57 undef = Value.pointer (some ⟨g, r, none⟩) := inv.done 10 _ 57 rfl rfl rfl
      have q58 : a'.tmps.getD 58 undef = uv zr := inv.done 11 _ 58 rfl rfl rfl
      have q59 : a'.tmps.getD 59 undef = Value.slice (some ⟨g, 0, none⟩) n cap := inv.done 12 _ 59 rfl rfl rfl
      have q60 : a'.tmps.getD 60 undef = Value.int IntKind.i64 (i : Int) := inv.done 13 _ 60 rfl rfl rfl
      have q61 : a'.tmps.getD 61 undef = Value.pointer (some ⟨g, i, none⟩) := inv.done 14 _ 61 rfl rfl rfl
      have q62 : a'.tmps.getD 62 undef = uv zi := inv.done 15 _ 62 rfl rfl rfl
      have q63 : a'.tmps.getD 63 undef = Value.pointer (some ⟨g, i, none⟩) := inv.done 16 _ 63 rfl rfl rfl
      have q64 : a'.tmps.getD 64 undef = Value.pointer (some ⟨g, r, none⟩) := inv.done 18 _ 64 rfl rfl rfl
      clear inv
      simp only [List.filterMap_cons, List.filterMap_nil, Par.putAll, Act.put, List.setIfInBounds_toArray, List.set_cons_succ, List.set_cons_zero, q47, q48, q49, q50, q51, q52, q53, q54, q55, q56, q57, q58, q59, q60, q61, q62, q63, q64]
      clear q47 q48 q49 q50 q51 q52 q53 q54 q55 q56 q57 q58 q59 q60 q61 q62 q63 q64
      obtain ⟨-, hrd, hf⟩ := Rg.Ch.fin hR (by decide) 2 rfl; have HRD := hid hrd; have HF4 := hid hf; clear hrd hf hR
      try clear a'
      have HR3 := hid (RA.swp Hzi Hzr HRD.out)
      have HF3 := hid (HF.out.trans HF4.out)
      clear HRD HF4 HR HF
      have HR := HR3
      have HF := HF3
      clear HR3 HF3
      have HPM2 : Hid (PermIn a b d0 (swp d i r)) := hid (permIn_trans _ _ _ a b HPM.out (swp_permIn d a b i r (by have := HL.out; omega) (by have := HL.out; omega) HRB.out.1 HRB.out.2 (by rw [HDS.out]; exact hbn)))
      have HX3 : Hid (∃ y, XS _ p y ∧ y < 18446744073709551616) := hid ⟨_, XS.fr HF.out HPG.out HX2.out.1, HX2.out.2⟩
      have HFo3 := hid (HFo2.out.trans (HF.out.mono (T := [g, p]) (by simp)))
      go_wp2
      go_roundw
      case rel => exact ⟨i + 1, swp d i r, by omega, by omega, by first | rfl | go_num, HR, HPM2, HX3, HFo3⟩
      case measure => simp [intOf] <;> omega
    · obtain ⟨o2, ho2⟩ : ∃ o2, o2 = o - l := ⟨_, rfl⟩
      have hdl : decide ((l : Int) ≤ (o : Int)) = true := by simp; omega
      have hwo2 : IntKind.i64.wrap ((o : Int) - (l : Int)) = (o2 : Int) := i64v _ (by omega) (by have := HOM.out; have := HM.out; have := HL.out; omega)
      have hol2 : o2 < l := by have := HOM.out; have := HM.out; omega
      clear ho2
      obtain ⟨r, hr⟩ : ∃ r, r = a + o2 := ⟨_, rfl⟩
      have hwr : IntKind.i64.wrap ((a : Int) + (o2 : Int)) = (r : Int) := i64v _ (by have := HL.out; omega) (by have := HL.out; omega)
      have hrb : a ≤ r ∧ r < b := by have := HL.out; omega
      have hrn : r < n := by omega
      have hrn2 : (r : Int) < n := by omega
      have HRB := hid hrb
      clear hr hrb
      obtain ⟨zi, Hzi, HCzi⟩ := cellV (B := B) (g := g) (n := n) (cap := cap) d i (by omega)
      obtain ⟨zr, Hzr, HCzr⟩ := cellV (B := B) (g := g) (n := n) (cap := cap) d r (by omega)
      go_wp2_with fail
      refine ParE.wp_region_e (l := [_, _, _, _, _, _, _, _, _, _, _, _, _, _, _, _, _, _, _, _]) rfl (Rg.Ch [17, 19] [] (SwV _ B g n cap i r zi zr d)) (ParC.VC [ParC.EQ (Value.slice (some ⟨g, 0, none⟩) n cap), ParC.EQ (Value.int IntKind.i64 (i : Int)), ParC.EQ (Value.slice (some ⟨g, 0, none⟩) n cap), ParC.EQ (Value.int IntKind.i64 (a : Int)), ParC.EQ (Value.int IntKind.i64 (o2 : Int)), ParC.EQ (Value.int IntKind.i64 (r : Int)), ParC.EQ (Value.slice (some ⟨g, 0, none⟩) n cap), ParC.EQ (Value.int IntKind.i64 (a : Int)), ParC.EQ (Value.int IntKind.i64 (o2 : Int)), ParC.EQ (Value.int IntKind.i64 (r : Int)), ParC.EQ (Value.pointer (some ⟨g, r, none⟩)), ParC.EQ (uv zr), ParC.EQ (Value.slice (some ⟨g, 0, none⟩) n cap), ParC.EQ (Value.int IntKind.i64 (i : Int)), ParC.EQ (Value.pointer (some ⟨g, i, none⟩)), ParC.EQ (uv zi), ParC.EQ (Value.pointer (some ⟨g, i, none⟩)), fun _ => True, ParC.EQ (Value.pointer (some ⟨g, r, none⟩)), fun _ => True]) (by kernel_rfl) (by kernel_rfl) (Rg.Ch.start ⟨fun _ => Ext.draw _, trivial⟩) ?_ ?_
      · refine ⟨fun L ρ w' hR hC hL hd hk => ?_, ?_⟩
        · exact Par.val_of_run rfl ⟨hR.other (by decide), hk.1⟩
        refine ⟨fun L ρ w' hR hC hL hd hk => ?_, ?_⟩
        · exact Par.val_of_run rfl ⟨hR.other (by decide), hk.1⟩
        refine ⟨fun L ρ w' hR hC hL hd hk => ?_, ?_⟩
        · exact Par.val_of_run rfl ⟨hR.other (by decide), hk.1⟩
        refine ⟨fun L ρ w' hR hC hL hd hk => ?_, ?_⟩
        · exact Par.val_of_run rfl ⟨hR.other (by decide), hk.1⟩
        refine ⟨fun L ρ w' hR hC hL hd hk => ?_, ?_⟩
        · exact Par.val_of_run rfl ⟨hR.other (by decide), hk.1⟩
        refine ⟨fun L ρ w' hR hC hL hd hk => ?_, ?_⟩
        · obtain ⟨(e0 : ρ (.tmp 50) = Value.int IntKind.i64 (a : Int)), (e1 : ρ (.tmp 51) = Value.int IntKind.i64 (o2 : Int)), -⟩ := hk; refine Par.val_k fun K hK => ?_; unfold Par.val
          (go_simp; exact hK _ _ ⟨hR.other (by decide), rfl⟩)
        refine ⟨fun L ρ w' hR hC hL hd hk => ?_, ?_⟩
        · exact Par.val_of_run rfl ⟨hR.other (by decide), hk.1⟩
        refine ⟨fun L ρ w' hR hC hL hd hk => ?_, ?_⟩
        · exact Par.val_of_run rfl ⟨hR.other (by decide), hk.1⟩
        refine ⟨fun L ρ w' hR hC hL hd hk => ?_, ?_⟩
        · exact Par.val_of_run rfl ⟨hR.other (by decide), hk.1⟩
        refine ⟨fun L ρ w' hR hC hL hd hk => ?_, ?_⟩
        · obtain ⟨(e0 : ρ (.tmp 54) = Value.int IntKind.i64 (a : Int)), (e1 : ρ (.tmp 55) = Value.int IntKind.i64 (o2 : Int)), -⟩ := hk; refine Par.val_k fun K hK => ?_; unfold Par.val
          (go_simp; exact hK _ _ ⟨hR.other (by decide), rfl⟩)
        refine ⟨fun L ρ w' hR hC hL hd hk => ?_, ?_⟩
        · obtain ⟨(e0 : ρ (.tmp 53) = Value.slice (some ⟨g, 0, none⟩) n cap), (e1 : ρ (.tmp 56) = Value.int IntKind.i64 (r : Int)), -⟩ := hk; refine Par.val_k fun K hK => ?_; unfold Par.val
          (go_simp; exact hK _ _ ⟨hR.other (by decide), rfl⟩)
        refine ⟨fun L ρ w' hR hC hL hd hk => ?_, ?_⟩
        · obtain ⟨(e0 : ρ (.tmp 57) = Value.pointer (some ⟨g, r, none⟩)), -⟩ := hk; refine Par.val_k fun K hK => ?_; unfold Par.val
          (obtain ⟨ii, hii, hq⟩ := hR.some 0 rfl (hC.notyet 17 11 hL (by kernel_rfl)); have cc := HCzr.out _ (RA.ext (hq.1 (by omega)) HR.out); go_simp; exact hK _ _ ⟨hR.other (by decide), rfl⟩)
        refine ⟨fun L ρ w' hR hC hL hd hk => ?_, ?_⟩
        · exact Par.val_of_run rfl ⟨hR.other (by decide), hk.1⟩
        refine ⟨fun L ρ w' hR hC hL hd hk => ?_, ?_⟩
        · exact Par.val_of_run rfl ⟨hR.other (by decide), hk.1⟩
        refine ⟨fun L ρ w' hR hC hL hd hk => ?_, ?_⟩
        · obtain ⟨(e0 : ρ (.tmp 59) = Value.slice (some ⟨g, 0, none⟩) n cap), (e1 : ρ (.tmp 60) = Value.int IntKind.i64 (i : Int)), -⟩ := hk; refine Par.val_k fun K hK => ?_; unfold Par.val
          (go_simp; exact hK _ _ ⟨hR.other (by decide), rfl⟩)
        refine ⟨fun L ρ w' hR hC hL hd hk => ?_, ?_⟩
        · obtain ⟨(e0 : ρ (.tmp 61) = Value.pointer (some ⟨g, i, none⟩)), -⟩ := hk; refine Par.val_k fun K hK => ?_; unfold Par.val
          (obtain ⟨ii, hii, hq⟩ := hR.some 0 rfl (hC.notyet 17 15 hL (by kernel_rfl)); have cc := HCzi.out _ (RA.ext (hq.1 (by omega)) HR.out); go_simp; exact hK _ _ ⟨hR.other (by decide), rfl⟩)
        refine ⟨fun L ρ w' hR hC hL hd hk => ?_, ?_⟩
        · obtain ⟨(e0 : ρ (.tmp 47) = Value.slice (some ⟨g, 0, none⟩) n cap), (e1 : ρ (.tmp 48) = Value.int IntKind.i64 (i : Int)), -⟩ := hk; refine Par.val_k fun K hK => ?_; unfold Par.val
          (go_simp; exact hK _ _ ⟨hR.other (by decide), rfl⟩)
        refine ⟨fun L ρ w' hR hC hL hd hk => ?_, ?_⟩
        · obtain ⟨(e0 : ρ (.tmp 63) = Value.pointer (some ⟨g, i, none⟩)), (e1 : ρ (.tmp 58) = uv zr), -⟩ := hk; refine Par.val_k fun K hK => ?_; unfold Par.val
          (obtain ⟨hq, hs⟩ := hR.go 0 rfl hL (.inl rfl) (by decide); have hx := hq.1 (by decide); have hrow := RA.ext hx HR.out; obtain ⟨cc, ff⟩ := hrow.at (j := i) (by omega); obtain ⟨hset, hfs⟩ := hrow.set i zr; have HSET := hid hset; have HFS := hid hfs; clear hset hfs hrow; go_simp; exact hK _ _ ⟨hs none _ _ ⟨fun h => absurd h (by decide), HSET.out, (Ext.fr hx).trans HFS.out⟩, trivial⟩)
        refine ⟨fun L ρ w' hR hC hL hd hk => ?_, ?_⟩
        · obtain ⟨(e0 : ρ (.tmp 49) = Value.slice (some ⟨g, 0, none⟩) n cap), (e1 : ρ (.tmp 52) = Value.int IntKind.i64 (r : Int)), -⟩ := hk; refine Par.val_k fun K hK => ?_; unfold Par.val
          (go_simp; exact hK _ _ ⟨hR.other (by decide), rfl⟩)
        refine ⟨fun L ρ w' hR hC hL hd hk => ?_, ?_⟩
        · obtain ⟨(e0 : ρ (.tmp 64) = Value.pointer (some ⟨g, r, none⟩)), (e1 : ρ (.tmp 62) = uv zi), -⟩ := hk; refine Par.val_k fun K hK => ?_; unfold Par.val
          (obtain ⟨hq, hs⟩ := hR.go 1 rfl hL (.inr ⟨17, rfl, hC.before 17 (i := 19) rfl hd (by kernel_rfl)⟩) (by decide); obtain ⟨hrow, hfr⟩ := hq.2; obtain ⟨cc, ff⟩ := hrow.at (j := r) (by omega); obtain ⟨hset, hfs⟩ := hrow.set r zi; have HSET := hid hset; have HFS := hid hfs; have HFR := hid hfr; clear hset hfs hrow hfr; go_simp; exact hK _ _ ⟨hs none _ _ ⟨fun h => absurd h (by decide), HSET.out, HFR.out.trans HFS.out⟩, trivial⟩)
        trivial
      intro a' w' inv hR
      have q47 : a'.tmps.getD 47 undef = Value.slice (some ⟨g, 0, none⟩) n cap := inv.done 0 _ 47 rfl rfl rfl
      have q48 : a'.tmps.getD 48 undef = Value.int IntKind.i64 (i : Int) := inv.done 1 _ 48 rfl rfl rfl
      have q49 : a'.tmps.getD 49 undef = Value.slice (some ⟨g, 0, none⟩) n cap := inv.done 2 _ 49 rfl rfl rfl
      have q50 : a'.tmps.getD 50 undef = Value.int IntKind.i64 (a : Int) := inv.done 3 _ 50 rfl rfl rfl
      have q51 : a'.tmps.getD 51 undef = Value.int IntKind.i64 (o2 : Int) := inv.done 4 _ 51 rfl rfl rfl
      have q52 : a'.tmps.getD 52 undef = Value.int IntKind.i64 (r : Int) := inv.done 5 _ 52 rfl rfl rfl
      have q53 : a'.tmps.getD 53 undef = Value.slice (some ⟨g, 0, none⟩) n cap := inv.done 6 _ 53 rfl rfl rfl
      have q54 : a'.tmps.getD 54 undef = Value.int IntKind.i64 (a : Int) := inv.done 7 _ 54 rfl rfl rfl
      have q55 : a'.tmps.getD 55 undef = Value.int IntKind.i64 (o2 : Int) := inv.done 8 _ 55 rfl rfl rfl
      have q56 : a'.tmps.getD 56 undef = Value.int IntKind.i64 (r : Int) := inv.done 9 _ 56 rfl rfl rfl
      have q57 : a'.tmps.getD 57 undef = Value.pointer (some ⟨g, r, none⟩) := inv.done 10 _ 57 rfl rfl rfl
      have q58 : a'.tmps.getD 58 undef = uv zr := inv.done 11 _ 58 rfl rfl rfl
      have q59 : a'.tmps.getD 59 undef = Value.slice (some ⟨g, 0, none⟩) n cap := inv.done 12 _ 59 rfl rfl rfl
      have q60 : a'.tmps.getD 60 undef = Value.int IntKind.i64 (i : Int) := inv.done 13 _ 60 rfl rfl rfl
      have q61 : a'.tmps.getD 61 undef = Value.pointer (some ⟨g, i, none⟩) := inv.done 14 _ 61 rfl rfl rfl
      have q62 : a'.tmps.getD 62 undef = uv zi := inv.done 15 _ 62 rfl rfl rfl
      have q63 : a'.tmps.getD 63 undef = Value.pointer (some ⟨g, i, none⟩) := inv.done 16 _ 63 rfl rfl rfl
      have q64 : a'.tmps.getD 64 undef = Value.pointer (some ⟨g, r, none⟩) := inv.done 18 _ 64 rfl rfl rfl
      clear inv
      simp only [List.filterMap_cons, List.filterMap_nil, Par.putAll, Act.put, List.setIfInBounds_toArray, List.set_cons_succ, List.set_cons_zero, q47, q48, q49, q50, q51, q52, q53, q54, q55, q56, q57, q58, q59, q60, q61, q62, q63, q64]
      clear q47 q48 q49 q50 q51 q52 q53 q54 q55 q56 q57 q58 q59 q60 q61 q62 q63 q64
      obtain ⟨-, hrd, hf⟩ := Rg.Ch.fin hR (by decide) 2 rfl; have HRD := hid hrd; have HF4 := hid hf; clear hrd hf hR
      try clear a'
      have HR3 := hid (RA.swp Hzi Hzr HRD.out)
      have HF3 := hid (HF.out.trans HF4.out)
      clear HRD HF4 HR HF
      have HR := HR3
      have HF := HF3
      clear HR3 HF3
      have HPM2 : Hid (PermIn a b d0 (swp d i r)) := hid (permIn_trans _ _ _ a b HPM.out (swp_permIn d a b i r (by have := HL.out; omega) (by have := HL.out; omega) HRB.out.1 HRB.out.2 (by rw [HDS.out]; exact hbn)))
      have HX3 : Hid (∃ y, XS _ p y ∧ y < 18446744073709551616) := hid ⟨_, XS.fr HF.out HPG.out HX2.out.1, HX2.out.2⟩
      have HFo3 := hid (HFo2.out.trans (HF.out.mono (T := [g, p]) (by simp)))
      go_wp2
      go_roundw
      case rel => exact ⟨i + 1, swp d i r, by omega, by omega, by first | rfl | go_num, HR, HPM2, HX3, HFo3⟩
      case measure => simp [intOf] <;> omega
end Go.Proofs.YtmbigiihcplcjaaGreatDoor

set_option linter.unusedSimpArgs false
set_option linter.unusedVariables false
namespace Go.Proofs.YtmbigiihcplcjaaGreatDoor
open Go Go.RowKit Go.Tum Go.ChangeMaps Go.Sort
open Go.ParB (upd Lof)
open Go.ParE (putS slotsR slots Closed)

/-- Whoever sorts [a, b) of d has sorted [p, q) of D. -/
def FinV (p q : Nat) (D : Array UInt64) (a b : Nat) (d : Array UInt64) : Prop := ∀ R, PermIn a b d R → SortedIn ltU a b R → PermIn p q D R ∧ SortedIn ltU p q R
theorem FinV.perm {p q a b : Nat} {D d e : Array UInt64} (h : FinV p q D a b d) (hp : PermIn a b d e) : FinV p q D a b e := fun R h1 h2 => h R (permIn_trans _ _ _ a b hp h1) h2
set_option maxRecDepth 100000 in
set_option maxHeartbeats 8000000 in
theorem pdqV_any {B : Nat} (g n cap : Nat) (hbig : n ≤ 4611686018427387903) (k : Nat) : ∀ (p0 q0 : Nat) (lim0 : Int) (D : Array UInt64) (w : World), q0 - p0 = k → p0 ≤ q0 → q0 ≤ n → Below ltU p0 q0 D → RA w B g n cap D →
 Calls Tryz.prog 94 #[.slice (some ⟨g, 0, none⟩) n cap, .int .i64 (p0 : Int), .int .i64 (q0 : Int), .int .i64 lim0] w fun e w' =>
  (∃ u, e = .returned u) ∧ (∃ d', PermIn p0 q0 D d' ∧ SortedIn ltU p0 q0 d' ∧ RA w' B g n cap d') ∧ Fr [g] w w' := by
 induction k using Nat.strongRecOn with
 | _ k ih =>
 intro p0 q0 lim0 D w hk hpq hqn hbel hra
 have IH := hid ih
 have HK := hid hk
 have HB0 := hid hbel
 have HR0 := hid hra
 clear ih hk hbel hra
 go_enter Tryz.func94, Tryz.ntmps94
 go_wp2_with fail
 go_loopw [1, 2, 3, 8, 9] (fun av bv lv wbv wpv wr => ∃ (a b : Nat) (lim : Int) (wb wp : Bool) (e : Array UInt64), p0 ≤ a ∧ b ≤ q0 ∧ a ≤ b ∧ av = .int .i64 (a : Int) ∧ bv = .int .i64 (b : Int) ∧ lv = .int .i64 lim ∧ wbv = .bool wb ∧ wpv = .bool wp ∧ Hid (Below ltU a b e) ∧ Hid (FinV p0 q0 D a b e) ∧ Hid (RA wr B g n cap e) ∧ Hid (Fr [g] w wr)) (fun av bv _ _ _ _ => (intOf bv).toNat - (intOf av).toNat)
 case atStart => exact ⟨p0, q0, lim0, true, true, D, Nat.le_refl _, Nat.le_refl _, hpq, rfl, rfl, rfl, rfl, rfl, HB0, hid (fun R h1 h2 => ⟨h1, h2⟩), HR0, hid (Fr.refl _ _)⟩
 case round =>
  clear HR0 HB0
  obtain ⟨a, b, lim, wb, wp, dA, hpa, hbq, hab, rfl, rfl, rfl, rfl, rfl, HB, HFIN, HR, HF⟩ := hrel
  have hbn : b ≤ n := by omega
  have HDS : Hid (dA.size = n) := hid HR.out.size
  obtain ⟨l, hl⟩ : ∃ l, l = b - a := ⟨_, rfl⟩
  have hwl : IntKind.i64.wrap ((b : Int) - (a : Int)) = (l : Int) := i64v _ (by omega) (by omega)
  have HL := hid hl
  rcases Nat.lt_or_ge 12 l with h12 | h12
  case inr =>
   have hd12 : decide ((l : Int) ≤ 12) = true := by simp; omega
   clear hl
   go_wp2_with fail
   refine (insV_any g n cap a b dA HR.out hab hbn (by omega)).mono ?_
   rintro e w1 ⟨⟨u, rfl⟩, hr, hf⟩
   have HR1 := hid hr
   have HF1 := hid (HF.out.trans hf)
   clear hr hf
   have hs := insertionSort_holds (lt := ltU) swoU dA a b hab (by rw [HDS.out]; exact hbn)
   have HS := hid (HFIN.out _ hs.1 hs.2)
   clear hs
   go_wp2
   go_returns
   exact ⟨⟨_, rfl⟩, ⟨_, HS.out.1, HS.out.2, HR1.out⟩, HF1.out⟩
  case inl =>
  have hd12 : decide ((l : Int) ≤ 12) = false := by simp; omega
  have hab12 : a + 12 < b := by omega
  clear hl
  by_cases h0 : lim = 0
  case pos =>
   subst h0
   go_wp2_with fail
   refine (heapV_any g n cap a b dA HR.out (by omega) hbn hbig).mono ?_
   rintro e w1 ⟨⟨u, rfl⟩, hr, hf⟩
   have HR1 := hid hr
   have HF1 := hid (HF.out.trans hf)
   clear hr hf
   have hs := heapSort_holds (lt := ltU) swoU dA a b hab (by rw [HDS.out]; exact hbn)
   have HS := hid (HFIN.out _ hs.1 hs.2)
   clear hs
   go_wp2
   go_returns
   exact ⟨⟨_, rfl⟩, ⟨_, HS.out.1, HS.out.2, HR1.out⟩, HF1.out⟩
  case neg =>
  have h0b : (lim == 0) = false := by simpa using h0
  go_upto_if 35 with fail
  go_cut [3] from 19 to 133 (fun lv wx => ∃ (lim2 : Int) (e : Array UInt64), lv = .int .i64 lim2 ∧ Hid (PermIn a b dA e) ∧ Hid (RA wx B g n cap e) ∧ Hid (Fr [g] w wx))
  case first =>
   cases wb
   case true =>
    go_wp2
    go_meet
    case rel => exact ⟨lim, dA, rfl, hid (permIn_refl _ _ _), HR, HF⟩
   case false =>
    go_wp2_with fail
    refine (brkV_any g n cap a b dA HR.out hab12 hbn hbig).mono ?_
    rintro e w1 ⟨⟨u, rfl⟩, ⟨d1, hp1, hr⟩, hf⟩
    have HR1 := hid hr
    have HP1 := hid hp1
    have HF1 := hid (HF.out.trans hf)
    clear hr hf hp1
    go_wp2
    go_meet
    case rel => exact ⟨_, d1, rfl, HP1, HR1, HF1⟩
  case rest =>
   clear HR HF h0 h0b
   obtain ⟨lim2, d, rfl, HPM, HR, HF⟩ := hcut
   go_wp2_with fail
   refine (pivV_any g n cap a b d HR.out hab12 hbn hbig).mono ?_
   rintro e w1 ⟨⟨x, y, rfl, hx1, hx2, hy⟩, hr, he⟩
   have HR1 := hid hr
   have HF1 : Hid (Fr [g] w w1) := hid (HF.out.trans (Ext.fr he))
   clear hr he HR HF
   have HR := HR1
   have HF := HF1
   clear HR1 HF1 hy
   unfold ph
   go_upto_if 50 with fail
   go_cut [11, 12] from 19 to 133 (fun pv hv wx => ∃ (x : Nat) (y : Int) (e : Array UInt64), pv = .int .i64 (x : Int) ∧ a ≤ x ∧ x < b ∧ hv = .int .i64 y ∧ Hid (PermIn a b dA e) ∧ Hid (RA wx B g n cap e) ∧ Hid (Fr [g] w wx))
   case first =>
    by_cases hy2 : y = 2
    · subst hy2
      obtain ⟨b1, hb1⟩ : ∃ b1, b1 + 1 = b := ⟨b - 1, by omega⟩
      obtain ⟨t, ht⟩ : ∃ t, t = x - a := ⟨_, rfl⟩
      obtain ⟨x2, hx2'⟩ : ∃ x2, x2 = b1 - t := ⟨_, rfl⟩
      have hwb1 : IntKind.i64.wrap ((b : Int) - 1) = (b1 : Int) := i64v _ (by omega) (by omega)
      have hwt : IntKind.i64.wrap ((x : Int) - (a : Int)) = (t : Int) := i64v _ (by omega) (by omega)
      have hwx : IntKind.i64.wrap ((b1 : Int) - (t : Int)) = (x2 : Int) := i64v _ (by omega) (by omega)
      have HX := hid (show a ≤ x2 ∧ x2 < b by omega)
      clear hb1 ht hx2'
      go_wp2_with fail
      refine (revV_any g n cap a b d HR.out (by omega) hbn hbig).mono ?_
      rintro e w1 ⟨⟨u, rfl⟩, hr, hf⟩
      have HR1 := hid hr
      have HF1 := hid (HF.out.trans hf)
      have HP1 : Hid (PermIn a b dA (reverseRange d a b)) := hid (permIn_trans _ _ _ a b HPM.out (reverseRange_holds d a b hab (by rw [HR.out.size]; exact hbn)))
      clear hr hf HR HF
      go_wp2
      go_meet
      case rel => exact ⟨x2, 1, _, rfl, HX.out.1, HX.out.2, rfl, HP1, HR1, HF1⟩
    · have hy2b : (y == 2) = false := by simpa using hy2
      go_wp2
      go_meet
      case rel => exact ⟨x, y, d, rfl, hx1, hx2, rfl, HPM, HR, HF⟩
   case rest =>
    clear HR HF HPM hx1 hx2
    obtain ⟨x, y, d, rfl, hx1, hx2, rfl, HPM, HR, HF⟩ := hcut
    go_upto_region 15 with fail
    go_cut [68] from 19 to 133 (fun v wx => ∃ c : Bool, v = .bool c ∧ Hid (RA wx B g n cap d) ∧ Hid (Fr [g] w wx))
    case first =>
     cases wb
     case false =>
      go_wp2
      go_meet
      case rel => exact ⟨_, rfl, HR, HF⟩
     case true =>
      cases wp
      case false =>
       go_wp2
       go_meet
       case rel => exact ⟨_, rfl, HR, HF⟩
      case true =>
       go_wp2
       go_meet
       case rel => exact ⟨_, rfl, HR, HF⟩
    case rest =>
     clear HR HF
     obtain ⟨c, rfl, HR, HF⟩ := hcut
     have HBd : Hid (Below ltU a b d) := hid (HB.out.perm (by rw [HDS.out]; exact hbn) HPM.out)
     go_upto_if 68 with fail
     go_cut [8] from 19 to 133 (fun v wx => (∃ wb2 : Bool, v = .bool wb2) ∧ ∃ (e : Array UInt64), Hid (PermIn a b dA e) ∧ Hid (RA wx B g n cap e) ∧ Hid (Fr [g] w wx))
     case first =>
      cases c
      case false =>
       go_wp2
       go_meet
       case rel => exact ⟨⟨_, rfl⟩, d, HPM, HR, HF⟩
      case true =>
       have hs := partialInsertionSort_holds (lt := ltU) swoU d a b (by omega) (by rw [HR.out.size]; exact hbn) HBd.out
       have hc := pinsV_any g n cap a b d HR.out (by omega) hbn hbig
       obtain ⟨P, hP⟩ : ∃ P, partialInsertionSort ltU d a b = P := ⟨_, rfl⟩
       rw [hP] at hs hc
       obtain ⟨d3, r⟩ := P
       have HS := hid hs
       have HC := hid hc
       clear hs hc hP
       go_wp2_with fail
       refine HC.out.mono ?_
       rintro e w1 ⟨rfl, hr, hf⟩
       have HR1 := hid hr
       have HF1 := hid (HF.out.trans hf)
       clear hr hf HC
       cases r
       case false =>
        have HP1 : Hid (PermIn a b dA d3) := hid (permIn_trans _ _ _ a b HPM.out HS.out.1)
        go_wp2
        go_meet
        case rel => exact ⟨⟨_, rfl⟩, d3, HP1, HR1, HF1⟩
       case true =>
        have HS2 := hid (HFIN.out _ (permIn_trans _ _ _ a b HPM.out HS.out.1) (HS.out.2 rfl))
        go_wp2
        go_returns
        exact ⟨⟨_, rfl⟩, ⟨_, HS2.out.1, HS2.out.2, HR1.out⟩, HF1.out⟩
     case rest =>
      clear HR HF HPM HBd
      obtain ⟨⟨wb2, rfl⟩, d, HPM, HR, HF⟩ := hcut
      have HBd : Hid (Below ltU a b d) := hid (HB.out.perm (by rw [HDS.out]; exact hbn) HPM.out)
      have HFd : Hid (FinV p0 q0 D a b d) := hid (HFIN.out.perm HPM.out)
      have hxn : x < n := by omega
      have hxn2 : (x : Int) < n := by omega
      go_upto_region 17 with fail
      go_cut [87] from 19 to 133 (fun v wx => ∃ c : Bool, v = .bool c ∧ Hid (c = true → 0 < a ∧ ltU d[a - 1]! d[x]! = false) ∧ Hid (RA wx B g n cap d) ∧ Hid (Fr [g] w wx))
      case first =>
       rcases Nat.eq_zero_or_pos a with ha | ha
       · have hcm : (0 < a) = False := by simp; omega
         have HQ : Hid (false = true → 0 < a ∧ ltU d[a - 1]! d[x]! = false) := hid (by simp)
         go_wp2_with fail
         refine Par.wp_region_par (l := [_, _, _, _, _, _, _, _, _, _, _, _, _, _, _]) rfl Ext (Par.VL [Par.EQ (Value.int IntKind.i64 (a : Int)), Par.EQ (Value.bool false), Par.EQ (Value.bool false), Par.EQ (undef), Par.EQ (undef), Par.EQ (undef), Par.EQ (undef), Par.EQ (undef), Par.EQ (undef), Par.EQ (undef), Par.EQ (undef), Par.EQ (undef), Par.EQ (undef), Par.EQ (undef), Par.EQ (Value.bool false)]) (by kernel_rfl) Ext.refl (fun _ _ _ h1 h2 => Ext.trans h1 h2) (Ext.draw _) (Par.VL_stab ?_) ?_ ?_
         · simp only [List.forall_mem_cons, List.not_mem_nil, false_implies, implies_true, and_true]
           refine ⟨fun _ _ _ _ h => h, fun _ _ _ _ h => h, fun _ _ _ _ h => h, fun _ _ _ _ h => h, fun _ _ _ _ h => h, fun _ _ _ _ h => h, fun _ _ _ _ h => h, fun _ _ _ _ h => h, fun _ _ _ _ h => h, fun _ _ _ _ h => h, fun _ _ _ _ h => h, fun _ _ _ _ h => h, fun _ _ _ _ h => h, fun _ _ _ _ h => h, fun _ _ _ _ h => h⟩
         · refine ⟨⟨fun _ _ => trivial, fun ρ w' hX hG hk => ?_⟩, ?_⟩
           · exact Par.val_of_run rfl ⟨Ext.refl _, hk.1⟩
           refine ⟨⟨fun _ _ => trivial, fun ρ w' hX hG hk => ?_⟩, ?_⟩
           · obtain ⟨(e0 : ρ (.tmp 73) = Value.int IntKind.i64 (a : Int)), (e1 : ρ (Operand.const (Value.int IntKind.i64 0)) = (Value.int IntKind.i64 0)), -⟩ := hk; refine Par.val_k fun K hK => ?_; unfold Par.val
             (go_simp; exact hK _ _ ⟨Ext.refl _, rfl⟩)
           refine ⟨⟨fun _ _ => trivial, fun ρ w' hX hG hk => ?_⟩, ?_⟩
           · exact Par.val_of_run rfl ⟨Ext.refl _, hk.1⟩
           refine ⟨⟨fun _ _ u hu => .inr rfl, fun ρ w' hX hG hk => ?_⟩, ?_⟩
           · cases hG
           refine ⟨⟨fun _ _ u hu => .inr rfl, fun ρ w' hX hG hk => ?_⟩, ?_⟩
           · cases hG
           refine ⟨⟨fun _ _ u hu => .inr rfl, fun ρ w' hX hG hk => ?_⟩, ?_⟩
           · cases hG
           refine ⟨⟨fun _ _ u hu => .inr rfl, fun ρ w' hX hG hk => ?_⟩, ?_⟩
           · cases hG
           refine ⟨⟨fun _ _ u hu => .inr rfl, fun ρ w' hX hG hk => ?_⟩, ?_⟩
           · cases hG
           refine ⟨⟨fun _ _ u hu => .inr rfl, fun ρ w' hX hG hk => ?_⟩, ?_⟩
           · cases hG
           refine ⟨⟨fun _ _ u hu => .inr rfl, fun ρ w' hX hG hk => ?_⟩, ?_⟩
           · cases hG
           refine ⟨⟨fun _ _ u hu => .inr rfl, fun ρ w' hX hG hk => ?_⟩, ?_⟩
           · cases hG
           refine ⟨⟨fun _ _ u hu => .inr rfl, fun ρ w' hX hG hk => ?_⟩, ?_⟩
           · cases hG
           refine ⟨⟨fun _ _ u hu => .inr rfl, fun ρ w' hX hG hk => ?_⟩, ?_⟩
           · cases hG
           refine ⟨⟨fun _ _ u hu => .inr rfl, fun ρ w' hX hG hk => ?_⟩, ?_⟩
           · cases hG
           refine ⟨⟨fun _ _ => trivial, fun ρ w' hX hG hk => ?_⟩, ?_⟩
           · obtain ⟨(e0 : ρ (.tmp 75) = Value.bool false), (e1 : ρ (.tmp 86) = undef), (e2 : ρ (Operand.const (Value.bool false)) = (Value.bool false)), -⟩ := hk; refine Par.val_k fun K hK => ?_; unfold Par.val
             (go_simp; exact hK _ _ ⟨Ext.refl _, rfl⟩)
           trivial
         intro a' w' inv
         have hX := inv.ext
         have q73 : a'.tmps.getD 73 undef = Value.int IntKind.i64 (a : Int) := inv.done 0 _ 73 rfl rfl rfl
         have q74 : a'.tmps.getD 74 undef = Value.bool false := inv.done 1 _ 74 rfl rfl rfl
         have q75 : a'.tmps.getD 75 undef = Value.bool false := inv.done 2 _ 75 rfl rfl rfl
         have q76 : a'.tmps.getD 76 undef = undef := inv.done 3 _ 76 rfl rfl rfl
         have q77 : a'.tmps.getD 77 undef = undef := inv.done 4 _ 77 rfl rfl rfl
         have q78 : a'.tmps.getD 78 undef = undef := inv.done 5 _ 78 rfl rfl rfl
         have q79 : a'.tmps.getD 79 undef = undef := inv.done 6 _ 79 rfl rfl rfl
         have q80 : a'.tmps.getD 80 undef = undef := inv.done 7 _ 80 rfl rfl rfl
         have q81 : a'.tmps.getD 81 undef = undef := inv.done 8 _ 81 rfl rfl rfl
         have q82 : a'.tmps.getD 82 undef = undef := inv.done 9 _ 82 rfl rfl rfl
         have q83 : a'.tmps.getD 83 undef = undef := inv.done 10 _ 83 rfl rfl rfl
         have q84 : a'.tmps.getD 84 undef = undef := inv.done 11 _ 84 rfl rfl rfl
         have q85 : a'.tmps.getD 85 undef = undef := inv.done 12 _ 85 rfl rfl rfl
         have q86 : a'.tmps.getD 86 undef = undef := inv.done 13 _ 86 rfl rfl rfl
         have q87 : a'.tmps.getD 87 undef = Value.bool false := inv.done 14 _ 87 rfl rfl rfl
         clear inv
         simp only [List.filterMap_cons, List.filterMap_nil, Par.putAll, Act.put, List.setIfInBounds_toArray, List.set_cons_succ, List.set_cons_zero, q73, q74, q75, q76, q77, q78, q79, q80, q81, q82, q83, q84, q85, q86, q87]
         clear q73 q74 q75 q76 q77 q78 q79 q80 q81 q82 q83 q84 q85 q86 q87
         clear a'
         have HF2 := hid (HF.out.trans (Ext.fr hX))
         have HR2 := hid (RA.ext hX HR.out)
         clear hX HF HR
         have HF := HF2
         have HR := HR2
         clear HF2 HR2
         go_wp2
         go_meet
         case rel => exact ⟨false, rfl, HQ, HR, HF⟩
       · obtain ⟨q, hq⟩ : ∃ q, q + 1 = a := ⟨a - 1, by omega⟩
         have hwq : IntKind.i64.wrap ((a : Int) - 1) = (q : Int) := i64v _ (by omega) (by omega)
         have hqn : q < n := by omega
         have hqn2 : (q : Int) < n := by omega
         have ha2 : (0 : Int) < (a : Int) := by omega
         obtain ⟨zq, Hzq, HCzq⟩ := cellV (B := B) (g := g) (n := n) (cap := cap) d q (by omega)
         obtain ⟨zx, Hzx, HCzx⟩ := cellV (B := B) (g := g) (n := n) (cap := cap) d x (by omega)
         obtain ⟨b0, Hb0⟩ : ∃ b, Hid (ltU zq zx = b) := ⟨_, hid rfl⟩
         have HQ : Hid ((!b0) = true → 0 < a ∧ ltU d[a - 1]! d[x]! = false) := hid (fun hh => ⟨ha, by rw [show a - 1 = q by omega, Hzq.out, Hzx.out, Hb0.out]; simpa using hh⟩)
         clear hq
         go_wp2_with fail
         refine Par.wp_region_par (l := [_, _, _, _, _, _, _, _, _, _, _, _, _, _, _]) rfl Ext (Par.VL [Par.EQ (Value.int IntKind.i64 (a : Int)), Par.EQ (Value.bool true), Par.EQ (Value.bool true), Par.EQ (Value.slice (some ⟨g, 0, none⟩) n cap), Par.EQ (Value.int IntKind.i64 (a : Int)), Par.EQ (Value.int IntKind.i64 (q : Int)), Par.EQ (Value.pointer (some ⟨g, q, none⟩)), Par.EQ (uv zq), Par.EQ (Value.slice (some ⟨g, 0, none⟩) n cap), Par.EQ (Value.int IntKind.i64 (x : Int)), Par.EQ (Value.pointer (some ⟨g, x, none⟩)), Par.EQ (uv zx), Par.EQ (Value.bool b0), Par.EQ (Value.bool (!b0)), Par.EQ (Value.bool (!b0))]) (by kernel_rfl) Ext.refl (fun _ _ _ h1 h2 => Ext.trans h1 h2) (Ext.draw _) (Par.VL_stab ?_) ?_ ?_
         · simp only [List.forall_mem_cons, List.not_mem_nil, false_implies, implies_true, and_true]
           refine ⟨fun _ _ _ _ h => h, fun _ _ _ _ h => h, fun _ _ _ _ h => h, fun _ _ _ _ h => h, fun _ _ _ _ h => h, fun _ _ _ _ h => h, fun _ _ _ _ h => h, fun _ _ _ _ h => h, fun _ _ _ _ h => h, fun _ _ _ _ h => h, fun _ _ _ _ h => h, fun _ _ _ _ h => h, fun _ _ _ _ h => h, fun _ _ _ _ h => h, fun _ _ _ _ h => h⟩
         · refine ⟨⟨fun _ _ => trivial, fun ρ w' hX hG hk => ?_⟩, ?_⟩
           · exact Par.val_of_run rfl ⟨Ext.refl _, hk.1⟩
           refine ⟨⟨fun _ _ => trivial, fun ρ w' hX hG hk => ?_⟩, ?_⟩
           · obtain ⟨(e0 : ρ (.tmp 73) = Value.int IntKind.i64 (a : Int)), (e1 : ρ (Operand.const (Value.int IntKind.i64 0)) = (Value.int IntKind.i64 0)), -⟩ := hk; refine Par.val_k fun K hK => ?_; unfold Par.val
             (go_simp; exact hK _ _ ⟨Ext.refl _, rfl⟩)
           refine ⟨⟨fun _ _ => trivial, fun ρ w' hX hG hk => ?_⟩, ?_⟩
           · exact Par.val_of_run rfl ⟨Ext.refl _, hk.1⟩
           refine ⟨⟨fun _ _ u hu => .inl hu, fun ρ w' hX hG hk => ?_⟩, ?_⟩
           · exact Par.val_of_run rfl ⟨Ext.refl _, hk.1⟩
           refine ⟨⟨fun _ _ u hu => .inl hu, fun ρ w' hX hG hk => ?_⟩, ?_⟩
           · exact Par.val_of_run rfl ⟨Ext.refl _, hk.1⟩
           refine ⟨⟨fun _ _ u hu => .inl hu, fun ρ w' hX hG hk => ?_⟩, ?_⟩
           · obtain ⟨(e0 : ρ (.tmp 77) = Value.int IntKind.i64 (a : Int)), (e1 : ρ (Operand.const (Value.int IntKind.i64 1)) = (Value.int IntKind.i64 1)), -⟩ := hk; refine Par.val_k fun K hK => ?_; unfold Par.val
             (go_simp; exact hK _ _ ⟨Ext.refl _, rfl⟩)
           refine ⟨⟨fun _ _ u hu => .inl hu, fun ρ w' hX hG hk => ?_⟩, ?_⟩
           · obtain ⟨(e0 : ρ (.tmp 76) = Value.slice (some ⟨g, 0, none⟩) n cap), (e1 : ρ (.tmp 78) = Value.int IntKind.i64 (q : Int)), -⟩ := hk; refine Par.val_k fun K hK => ?_; unfold Par.val
             (go_simp; exact hK _ _ ⟨Ext.refl _, rfl⟩)
           refine ⟨⟨fun _ _ u hu => .inl hu, fun ρ w' hX hG hk => ?_⟩, ?_⟩
           · obtain ⟨(e0 : ρ (.tmp 79) = Value.pointer (some ⟨g, q, none⟩)), -⟩ := hk; refine Par.val_k fun K hK => ?_; unfold Par.val
             (have cc := HCzq.out _ (RA.ext hX HR.out); go_simp; exact hK _ _ ⟨Ext.refl _, rfl⟩)
           refine ⟨⟨fun _ _ u hu => .inl hu, fun ρ w' hX hG hk => ?_⟩, ?_⟩
           · exact Par.val_of_run rfl ⟨Ext.refl _, hk.1⟩
           refine ⟨⟨fun _ _ u hu => .inl hu, fun ρ w' hX hG hk => ?_⟩, ?_⟩
           · exact Par.val_of_run rfl ⟨Ext.refl _, hk.1⟩
           refine ⟨⟨fun _ _ u hu => .inl hu, fun ρ w' hX hG hk => ?_⟩, ?_⟩
           · obtain ⟨(e0 : ρ (.tmp 81) = Value.slice (some ⟨g, 0, none⟩) n cap), (e1 : ρ (.tmp 82) = Value.int IntKind.i64 (x : Int)), -⟩ := hk; refine Par.val_k fun K hK => ?_; unfold Par.val
             (go_simp; exact hK _ _ ⟨Ext.refl _, rfl⟩)
           refine ⟨⟨fun _ _ u hu => .inl hu, fun ρ w' hX hG hk => ?_⟩, ?_⟩
           · obtain ⟨(e0 : ρ (.tmp 83) = Value.pointer (some ⟨g, x, none⟩)), -⟩ := hk; refine Par.val_k fun K hK => ?_; unfold Par.val
             (have cc := HCzx.out _ (RA.ext hX HR.out); go_simp; exact hK _ _ ⟨Ext.refl _, rfl⟩)
           refine ⟨⟨fun _ _ u hu => .inl hu, fun ρ w' hX hG hk => ?_⟩, ?_⟩
           · obtain ⟨e0, (e1 : ρ (.tmp 80) = uv zq), (e2 : ρ (.tmp 84) = uv zx), -⟩ := hk; refine Par.val_k fun K hK => ?_; unfold Par.val
             refine Par.val_call Tryz.func121 (by kernel_rfl) rfl e0 ?_
             simp only [List.map_toArray, List.map_cons, List.map_nil, e1, e2]
             refine (lessU_any zq zx _).mono ?_
             rintro e w2 ⟨rfl, rfl⟩
             exact ⟨_, rfl, hK _ _ ⟨Ext.refl _, (congrArg Value.bool Hb0.out)⟩⟩
           refine ⟨⟨fun _ _ u hu => .inl hu, fun ρ w' hX hG hk => ?_⟩, ?_⟩
           · obtain ⟨(e0 : ρ (.tmp 85) = Value.bool b0), -⟩ := hk; refine Par.val_k fun K hK => ?_; unfold Par.val
             (go_simp; exact hK _ _ ⟨Ext.refl _, rfl⟩)
           refine ⟨⟨fun _ _ => trivial, fun ρ w' hX hG hk => ?_⟩, ?_⟩
           · obtain ⟨(e0 : ρ (.tmp 75) = Value.bool true), (e1 : ρ (.tmp 86) = Value.bool (!b0)), (e2 : ρ (Operand.const (Value.bool false)) = (Value.bool false)), -⟩ := hk; refine Par.val_k fun K hK => ?_; unfold Par.val
             (go_simp; exact hK _ _ ⟨Ext.refl _, rfl⟩)
           trivial
         intro a' w' inv
         have hX := inv.ext
         have q73 : a'.tmps.getD 73 undef = Value.int IntKind.i64 (a : Int) := inv.done 0 _ 73 rfl rfl rfl
         have q74 : a'.tmps.getD 74 undef = Value.bool true := inv.done 1 _ 74 rfl rfl rfl
         have q75 : a'.tmps.getD 75 undef = Value.bool true := inv.done 2 _ 75 rfl rfl rfl
         have q76 : a'.tmps.getD 76 undef = Value.slice (some ⟨g, 0, none⟩) n cap := inv.done 3 _ 76 rfl rfl rfl
         have q77 : a'.tmps.getD 77 undef = Value.int IntKind.i64 (a : Int) := inv.done 4 _ 77 rfl rfl rfl
         have q78 : a'.tmps.getD 78 undef = Value.int IntKind.i64 (q : Int) := inv.done 5 _ 78 rfl rfl rfl
         have q79 : a'.tmps.getD 79 undef = Value.pointer (some ⟨g, q, none⟩) := inv.done 6 _ 79 rfl rfl rfl
         have q80 : a'.tmps.getD 80 undef = uv zq := inv.done 7 _ 80 rfl rfl rfl
         have q81 : a'.tmps.getD 81 undef = Value.slice (some ⟨g, 0, none⟩) n cap := inv.done 8 _ 81 rfl rfl rfl
         have q82 : a'.tmps.getD 82 undef = Value.int IntKind.i64 (x : Int) := inv.done 9 _ 82 rfl rfl rfl
         have q83 : a'.tmps.getD 83 undef = Value.pointer (some ⟨g, x, none⟩) := inv.done 10 _ 83 rfl rfl rfl
         have q84 : a'.tmps.getD 84 undef = uv zx := inv.done 11 _ 84 rfl rfl rfl
         have q85 : a'.tmps.getD 85 undef = Value.bool b0 := inv.done 12 _ 85 rfl rfl rfl
         have q86 : a'.tmps.getD 86 undef = Value.bool (!b0) := inv.done 13 _ 86 rfl rfl rfl
         have q87 : a'.tmps.getD 87 undef = Value.bool (!b0) := inv.done 14 _ 87 rfl rfl rfl
         clear inv
         simp only [List.filterMap_cons, List.filterMap_nil, Par.putAll, Act.put, List.setIfInBounds_toArray, List.set_cons_succ, List.set_cons_zero, q73, q74, q75, q76, q77, q78, q79, q80, q81, q82, q83, q84, q85, q86, q87]
         clear q73 q74 q75 q76 q77 q78 q79 q80 q81 q82 q83 q84 q85 q86 q87
         clear a'
         have HF2 := hid (HF.out.trans (Ext.fr hX))
         have HR2 := hid (RA.ext hX HR.out)
         clear hX HF HR
         have HF := HF2
         have HR := HR2
         clear HF2 HR2
         go_wp2
         go_meet
         case rel => exact ⟨_, rfl, HQ, HR, HF⟩
      case rest =>
       clear HR HF
       obtain ⟨c, rfl, HQ, HR, HF⟩ := hcut
       cases c
       case true =>
        obtain ⟨P, hP⟩ : ∃ P, partitionEqual ltU d a b x = P := ⟨_, rfl⟩
        obtain ⟨mid, d4⟩ := P
        have hc := partEqV_any g n cap a b x d HR.out hx1 hx2 hbn hbig
        rw [hP] at hc
        have hs := round_eq (lt := ltU) swoU (partitionEqual_holds _) (HQ.out rfl).1 hx1 hx2 (by rw [HR.out.size]; exact hbn) HBd.out (HQ.out rfl).2 hP
        have HS := hid hs
        have HC := hid hc
        clear hs hc hP
        have hm := hid (And.intro HS.out.1 HS.out.2.1)
        go_wp2_with fail
        refine HC.out.mono ?_
        rintro e w1 ⟨rfl, hr, hf⟩
        have HR1 := hid hr
        have HF1 := hid (HF.out.trans hf)
        clear hr hf HC HR HF
        have HF2 : Hid (FinV p0 q0 D mid b d4) := hid (fun R h1 h2 => by have := HS.out.2.2.2.2 R h1 h2; exact HFd.out R this.1 this.2)
        have HB2 := hid HS.out.2.2.2.1
        go_wp2
        go_roundw
        case rel => exact ⟨mid, b, lim2, wb2, wp, d4, by have := hm.out; omega, hbq, hm.out.2, rfl, rfl, rfl, rfl, rfl, HB2, HF2, HR1, HF1⟩
        case measure => simp [intOf] <;> (have := hm.out; omega)
       case false =>
        obtain ⟨P, hP⟩ : ∃ P, partition ltU d a b x = P := ⟨_, rfl⟩
        obtain ⟨mid, ap, d4⟩ := P
        have hc := partV_any g n cap a b x d HR.out hx1 hx2 hbn hbig
        rw [hP] at hc
        have hs := round_part (lt := ltU) swoU (partition_holds _) hx1 hx2 (by rw [HR.out.size]; exact hbn) HBd.out hP
        have HS := hid hs
        have HC := hid hc
        clear hs hc hP
        have hm := hid (And.intro HS.out.1 HS.out.2.1)
        obtain ⟨L, hL⟩ : ∃ L, L = mid - a := ⟨_, rfl⟩
        obtain ⟨S, hS⟩ : ∃ S, S = b - mid := ⟨_, rfl⟩
        obtain ⟨T, hT⟩ : ∃ T, T = l / 8 := ⟨_, rfl⟩
        obtain ⟨m1, hm1⟩ : ∃ m1, m1 = mid + 1 := ⟨_, rfl⟩
        have hwL : IntKind.i64.wrap ((mid : Int) - (a : Int)) = (L : Int) := i64v _ (by have := hm.out; omega) (by have := hm.out; omega)
        have hwS : IntKind.i64.wrap ((b : Int) - (mid : Int)) = (S : Int) := i64v _ (by have := hm.out; omega) (by have := hm.out; omega)
        have hwT : IntKind.i64.wrap ((l : Int) / 8) = (T : Int) := i64v _ (by omega) (by have := HL.out; omega)
        have hwm1 : IntKind.i64.wrap ((mid : Int) + 1) = (m1 : Int) := i64v _ (by omega) (by have := hm.out; omega)
        have HM1 := hid hm1
        clear hL hS hT hm1
        go_wp2_with fail
        refine HC.out.mono ?_
        rintro e w1 ⟨rfl, hr, hf⟩
        have HR1 := hid hr
        have HF1 := hid (HF.out.trans hf)
        clear hr hf HC HR HF
        unfold mb
        simp only []
        rcases Nat.lt_or_ge L S with hLS | hLS
        · have hdl : decide ((L : Int) < (S : Int)) = true := by simp; omega
          go_wp2_with fail
          refine (IH.out (mid - a) (by have := hm.out; have := HK.out; omega) a mid lim2 d4 w1 rfl hm.out.1 (by have := hm.out; omega) HS.out.2.2.2.1 HR1.out).mono ?_
          rintro e w2 ⟨⟨u, rfl⟩, ⟨d5, hp5, hs5, hr⟩, hf⟩
          have HR2 := hid hr
          have HF2 := hid (HF1.out.trans hf)
          have HQ5 := hid (HS.out.2.2.2.2.2.1 d5 hp5 hs5)
          clear hr hf hp5 hs5 HR1 HF1
          have HFi : Hid (FinV p0 q0 D m1 b d5) := hid (fun R h1 h2 => by rw [HM1.out] at h1 h2; have := HQ5.out.2 R h1 h2; exact HFd.out R this.1 this.2)
          have HB2 : Hid (Below ltU m1 b d5) := hid (by rw [HM1.out]; exact HQ5.out.1)
          go_wp2
          go_roundw
          case rel => exact ⟨m1, b, lim2, _, ap, d5, by have := hm.out; have := HM1.out; omega, hbq, by have := hm.out; have := HM1.out; omega, rfl, rfl, rfl, rfl, rfl, HB2, HFi, HR2, HF2⟩
          case measure => simp [intOf] <;> (have := hm.out; have := HM1.out; omega)
        · have hdl : decide ((L : Int) < (S : Int)) = false := by simp; omega
          have hca := IH.out (b - m1) (by have := hm.out; have := HK.out; have := HM1.out; omega) m1 b lim2 d4 w1 rfl (by have := hm.out; have := HM1.out; omega) hbn (by rw [HM1.out]; exact HS.out.2.2.2.2.1) HR1.out
          have HCA := hid hca
          clear hca
          go_wp2_with fail
          refine HCA.out.mono ?_
          rintro e w2 ⟨⟨u, rfl⟩, ⟨d5, hp5, hs5, hr⟩, hf⟩
          rw [HM1.out] at hp5 hs5
          have HR2 := hid hr
          have HF2 := hid (HF1.out.trans hf)
          have HQ5 := hid (HS.out.2.2.2.2.2.2 d5 hp5 hs5)
          clear hr hf hp5 hs5 HR1 HF1 HCA
          have HFi : Hid (FinV p0 q0 D a mid d5) := hid (fun R h1 h2 => by have := HQ5.out.2 R h1 h2; exact HFd.out R this.1 this.2)
          have HB2 : Hid (Below ltU a mid d5) := hid HQ5.out.1
          go_wp2
          go_roundw
          case rel => exact ⟨a, mid, lim2, _, ap, d5, hpa, by have := hm.out; omega, hm.out.1, rfl, rfl, rfl, rfl, rfl, HB2, HFi, HR2, HF2⟩
          case measure => simp [intOf] <;> (have := hm.out; omega)
end Go.Proofs.YtmbigiihcplcjaaGreatDoor

set_option linter.unusedSimpArgs false
set_option linter.unusedVariables false
namespace Go.Proofs.YtmbigiihcplcjaaGreatDoor
open Go Go.RowKit Go.Tum Go.ChangeMaps Go.Sort
open Go.ParB (upd Lof)
open Go.ParE (putS slotsR slots Closed)

set_option maxHeartbeats 1000000 in
theorem sortV_any {B : Nat} {w : World} (g n cap : Nat) (l : List UInt64) (h : RowU w B g n cap l) (hn : l.length = n) (hbig : n ≤ 4611686018427387903) :
 Calls Tryz.prog 56 #[.slice (some ⟨g, 0, none⟩) n cap] w fun e w' => (∃ u, e = .returned u) ∧ RowU w' B g n cap (l.mergeSort fun x y => decide (x ≤ y)) ∧ Fr [g] w w' := by
 have hra : RA w B g n cap l.toArray := ⟨by simpa using h, by simpa using hn⟩
 have hc := fun lim w2 hr => pdqV_any (B := B) g n cap hbig n 0 n lim l.toArray w2 (by omega) (by omega) (Nat.le_refl _) (.inl rfl) hr
 have HC := hid hc
 have HR := hid hra
 have HN := hid hn
 have hbl : ∀ w2, Calls Tryz.prog 95 #[.int .u64 (n : Int)] w2 fun e w3 => (∃ k : Int, e = .returned (.int .i64 k)) ∧ w3 = w2 := fun w2 => (Tryz.bits_Len n w2 (by omega) (by omega)).mono fun _ _ hh => ⟨⟨_, hh.1⟩, hh.2⟩
 have HBL := hid hbl
 have hwu : IntKind.u64.wrap (n : Int) = (n : Int) := by rw [IntKind.wrap_u64]; omega
 clear h hc hn hbl hra
 go_enter Tryz.func56, Tryz.ntmps56
 go_wp2_with fail
 refine (HBL.out w).mono ?_
 rintro e w1 ⟨⟨k, rfl⟩, rfl⟩
 go_wp2_with fail
 refine (HC.out k _ HR.out).mono ?_
 rintro e w2 ⟨⟨u, rfl⟩, ⟨d', hp, hs, hr⟩, hf⟩
 have HE : Hid (d'.toList = l.mergeSort fun x y => decide (x ≤ y)) := hid (by
  have hz : l.toArray.size = n := by simpa using HN.out
  have := sorted_unique_holds (lt := ltU) swoU (fun x y h1 h2 => by
   simp only [ltU, decide_eq_false_iff_not, UInt64.lt_iff_toNat_lt] at h1 h2
   exact UInt64.toNat_inj.1 (by omega)) l.toArray d' (by rw [hz]; exact hp) (by rw [hz]; exact hs)
  rw [this]
  congr 1
  funext x y
  rw [Bool.eq_iff_iff]
  simp [ltU, UInt64.lt_iff_toNat_lt, UInt64.le_iff_toNat_le])
 have HR2 := hid hr
 have HF := hid hf
 clear hr hf hp hs
 go_wp2
 go_returns
 exact ⟨⟨_, rfl⟩, by rw [← HE.out]; exact HR2.out.row, HF.out⟩
end Go.Proofs.YtmbigiihcplcjaaGreatDoor

