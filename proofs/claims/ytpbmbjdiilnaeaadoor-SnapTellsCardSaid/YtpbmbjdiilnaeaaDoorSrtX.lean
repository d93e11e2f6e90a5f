/- What breaks patterns: numbers that jump, a power of two. -/
import Derived.Test.YtpbmbjdiilnaeaaDoorSrtM
import Derived.Laws.Bits64
import Derived.Laws.Bits64b
import Derived.Sort.WalkA14
set_option linter.unusedSimpArgs false
set_option linter.unusedVariables false
namespace Go.Proofs.YtpbmbjdiilnaeaaDoor
open Go Go.RowKit Go.Tum Go.ChangeMaps Go.Sort
open Go.ParB (upd Lof)
open Go.ParE (putS slotsR slots Closed)

/-- A jumping number in its block. -/
def XS (w : World) (p x : Nat) : Prop := w.heap[p]? = some (.cells #[.int .u64 (x : Int)] 118 (0, 0))
theorem XS.at {w : World} {p x : Nat} (h : XS w p x) : w.cell? ⟨p, 0, none⟩ = some (.int .u64 (x : Int)) ∧ w.frozen? ⟨p, 0, none⟩ = false := lk1v h
theorem XS.ext {w w' : World} {p x : Nat} (hx : Ext w w') (h : XS w p x) : XS w' p x := by
  unfold XS
  rw [hx.block p (Array.getElem?_eq_some_iff.1 h).1]; exact h
theorem XS.set {w : World} {p x : Nat} (h : XS w p x) (y : Nat) : XS (w.setCell ⟨p, 0, none⟩ (.int .u64 (y : Int))) p y ∧ Fr [p] w (w.setCell ⟨p, 0, none⟩ (.int .u64 (y : Int))) := ⟨one_setCell h, fr_setCell _ _ _ (by simp)⟩
theorem XS.fr {w w' : World} {g p x : Nat} (f : Fr [g] w w') (hp : p ≠ g) (h : XS w p x) : XS w' p x := by
  unfold XS
  rw [f.block p (Array.getElem?_eq_some_iff.1 h).1 (by simpa using hp)]; exact h
set_option maxRecDepth 100000 in
set_option maxHeartbeats 2000000 in
theorem xorV_any {w : World} (p x : Nat) (h : XS w p x) (hx : x < 18446744073709551616) :
    Calls Tryd.prog 53 #[.pointer (some ⟨p, 0, none⟩)] w fun e w' => (∃ y : Nat, e = .returned (.int .u64 (y : Int)) ∧ y < 18446744073709551616 ∧ XS w' p y) ∧ Fr [p] w w' := by
  have HS := hid h
  have HF : Hid (Fr [p] w w) := hid (Fr.refl _ _)
  obtain ⟨s, hs⟩ : ∃ s, s = x * 8192 % 18446744073709551616 := ⟨_, rfl⟩
  obtain ⟨A, hA⟩ : ∃ A : Nat, A = x ^^^ s := ⟨_, rfl⟩
  obtain ⟨t, ht⟩ : ∃ t, t = A / 128 := ⟨_, rfl⟩
  obtain ⟨C, hC⟩ : ∃ C : Nat, C = A ^^^ t := ⟨_, rfl⟩
  obtain ⟨u, hu⟩ : ∃ u, u = C * 131072 % 18446744073709551616 := ⟨_, rfl⟩
  obtain ⟨E, hE⟩ : ∃ E : Nat, E = C ^^^ u := ⟨_, rfl⟩
  have ls : s < 18446744073709551616 := by omega
  have lA : A < 18446744073709551616 := by rw [hA]; exact Nat.xor_lt_two_pow (n := 64) (by omega) (by omega)
  have lt' : t < 18446744073709551616 := by omega
  have lC : C < 18446744073709551616 := by rw [hC]; exact Nat.xor_lt_two_pow (n := 64) (by omega) (by omega)
  have lu : u < 18446744073709551616 := by omega
  have lE : E < 18446744073709551616 := by rw [hE]; exact Nat.xor_lt_two_pow (n := 64) (by omega) (by omega)
  have e1 : IntKind.u64.wrap ((x : Int) * 8192) = (s : Int) := by rw [IntKind.wrap_u64]; omega
  have e2 : bits .xor .u64 (x : Int) (s : Int) = (A : Int) := by rw [bits_xor_u64_nat _ _ hx ls, hA]
  have e3 : (A : Int) / 128 = (t : Int) := by omega
  have e4 : bits .xor .u64 (A : Int) (t : Int) = (C : Int) := by rw [bits_xor_u64_nat _ _ lA lt', hC]
  have e5 : IntKind.u64.wrap ((C : Int) * 131072) = (u : Int) := by rw [IntKind.wrap_u64]; omega
  have e6 : bits .xor .u64 (C : Int) (u : Int) = (E : Int) := by rw [bits_xor_u64_nat _ _ lC lu, hE]
  clear h hs hA ht hC hu hE
  go_enter Tryd.func53, Tryd.ntmps53
  go_wp2_with fail
  refine ParE.wp_region_e (l := [_, _, _, _, _, _, _, _, _, _]) rfl (Rg.R1 w 9 (fun w3 => XS w3 p A ∧ Fr [p] w w3)) (ParC.VC [ParC.EQ (Value.pointer (some ⟨p, 0, none⟩)), ParC.EQ (Value.pointer (some ⟨p, 0, none⟩)), ParC.EQ (Value.int IntKind.u64 (x : Int)), ParC.EQ (Value.pointer (some ⟨p, 0, none⟩)), ParC.EQ (Value.pointer (some ⟨p, 0, none⟩)), ParC.EQ (Value.int IntKind.u64 (x : Int)), ParC.EQ (Value.int IntKind.u64 (s : Int)), ParC.EQ (Value.int IntKind.u64 (A : Int)), ParC.EQ (Value.pointer (some ⟨p, 0, none⟩)), fun _ => True]) (by kernel_rfl) (by kernel_rfl) (Rg.R1.start) ?_ ?_
  · refine ⟨fun L ρ w' hR hC hL hd hk => ?_, ?_⟩
    · exact Par.val_of_run rfl ⟨hR.other (by decide), hk.1⟩
    refine ⟨fun L ρ w' hR hC hL hd hk => ?_, ?_⟩
    · obtain ⟨k0, -⟩ := hk
      have e0 : ρ (.tmp 3) = Value.pointer (some ⟨p, 0, none⟩) := k0
      clear k0
      refine Par.val_k fun K hK => ?_
      unfold Par.val
      (go_simp; exact hK _ _ ⟨hR.other (by decide), rfl⟩)
    refine ⟨fun L ρ w' hR hC hL hd hk => ?_, ?_⟩
    · obtain ⟨k0, -⟩ := hk
      have e0 : ρ (.tmp 4) = Value.pointer (some ⟨p, 0, none⟩) := k0
      clear k0
      refine Par.val_k fun K hK => ?_
      unfold Par.val
      (have hx := hR.a (hC.notyet 9 2 hL (by kernel_rfl)); obtain ⟨cc, ff⟩ := XS.at (XS.ext hx HS.out); go_simp; exact hK _ _ ⟨hR.other (by decide), rfl⟩)
    refine ⟨fun L ρ w' hR hC hL hd hk => ?_, ?_⟩
    · exact Par.val_of_run rfl ⟨hR.other (by decide), hk.1⟩
    refine ⟨fun L ρ w' hR hC hL hd hk => ?_, ?_⟩
    · obtain ⟨k0, -⟩ := hk
      have e0 : ρ (.tmp 6) = Value.pointer (some ⟨p, 0, none⟩) := k0
      clear k0
      refine Par.val_k fun K hK => ?_
      unfold Par.val
      (go_simp; exact hK _ _ ⟨hR.other (by decide), rfl⟩)
    refine ⟨fun L ρ w' hR hC hL hd hk => ?_, ?_⟩
    · obtain ⟨k0, -⟩ := hk
      have e0 : ρ (.tmp 7) = Value.pointer (some ⟨p, 0, none⟩) := k0
      clear k0
      refine Par.val_k fun K hK => ?_
      unfold Par.val
      (have hx := hR.a (hC.notyet 9 5 hL (by kernel_rfl)); obtain ⟨cc, ff⟩ := XS.at (XS.ext hx HS.out); go_simp; exact hK _ _ ⟨hR.other (by decide), rfl⟩)
    refine ⟨fun L ρ w' hR hC hL hd hk => ?_, ?_⟩
    · obtain ⟨k0, k1, -⟩ := hk
      have e0 : ρ (.tmp 8) = Value.int IntKind.u64 (x : Int) := k0
      have e1 : ρ (Operand.const (Value.int IntKind.u64 13)) = (Value.int IntKind.u64 13) := k1
      clear k0 k1
      refine Par.val_k fun K hK => ?_
      unfold Par.val
      (go_simp; exact hK _ _ ⟨hR.other (by decide), rfl⟩)
    refine ⟨fun L ρ w' hR hC hL hd hk => ?_, ?_⟩
    · obtain ⟨k0, k1, -⟩ := hk
      have e0 : ρ (.tmp 5) = Value.int IntKind.u64 (x : Int) := k0
      have e1 : ρ (.tmp 9) = Value.int IntKind.u64 (s : Int) := k1
      clear k0 k1
      refine Par.val_k fun K hK => ?_
      unfold Par.val
      (go_simp; exact hK _ _ ⟨hR.other (by decide), rfl⟩)
    refine ⟨fun L ρ w' hR hC hL hd hk => ?_, ?_⟩
    · obtain ⟨k0, -⟩ := hk
      have e0 : ρ (.tmp 3) = Value.pointer (some ⟨p, 0, none⟩) := k0
      clear k0
      refine Par.val_k fun K hK => ?_
      unfold Par.val
      (go_simp; exact hK _ _ ⟨hR.other (by decide), rfl⟩)
    refine ⟨fun L ρ w' hR hC hL hd hk => ?_, ?_⟩
    · obtain ⟨k0, k1, -⟩ := hk
      have e0 : ρ (.tmp 11) = Value.pointer (some ⟨p, 0, none⟩) := k0
      have e1 : ρ (.tmp 10) = Value.int IntKind.u64 (A : Int) := k1
      clear k0 k1
      refine Par.val_k fun K hK => ?_
      unfold Par.val
      (have hx := hR.a hL; have hrow := XS.ext hx HS.out; obtain ⟨cc, ff⟩ := XS.at hrow; have hset := XS.set hrow A; have HSET := hid hset; clear hset hrow; go_simp; exact hK _ _ ⟨Rg.R1.last ⟨HSET.out.1, (Ext.fr hx).trans HSET.out.2⟩, trivial⟩)
    trivial
  intro a' w' inv hR
  have q3 : a'.tmps.getD 3 undef = Value.pointer (some ⟨p, 0, none⟩) := inv.done 0 _ 3 rfl rfl rfl
  have q4 : a'.tmps.getD 4 undef = Value.pointer (some ⟨p, 0, none⟩) := inv.done 1 _ 4 rfl rfl rfl
  have q5 : a'.tmps.getD 5 undef = Value.int IntKind.u64 (x : Int) := inv.done 2 _ 5 rfl rfl rfl
  have q6 : a'.tmps.getD 6 undef = Value.pointer (some ⟨p, 0, none⟩) := inv.done 3 _ 6 rfl rfl rfl
  have q7 : a'.tmps.getD 7 undef = Value.pointer (some ⟨p, 0, none⟩) := inv.done 4 _ 7 rfl rfl rfl
  have q8 : a'.tmps.getD 8 undef = Value.int IntKind.u64 (x : Int) := inv.done 5 _ 8 rfl rfl rfl
  have q9 : a'.tmps.getD 9 undef = Value.int IntKind.u64 (s : Int) := inv.done 6 _ 9 rfl rfl rfl
  have q10 : a'.tmps.getD 10 undef = Value.int IntKind.u64 (A : Int) := inv.done 7 _ 10 rfl rfl rfl
  have q11 : a'.tmps.getD 11 undef = Value.pointer (some ⟨p, 0, none⟩) := inv.done 8 _ 11 rfl rfl rfl
  clear inv
  simp only [List.filterMap_cons, List.filterMap_nil, Par.putAll, Act.put, List.setIfInBounds_toArray, List.set_cons_succ, List.set_cons_zero, q3, q4, q5, q6, q7, q8, q9, q10, q11]
  clear q3 q4 q5 q6 q7 q8 q9 q10 q11
  obtain ⟨hrd, hf⟩ := hR.z rfl; have HS2 := hid hrd; have HF2 := hid (HF.out.trans hf); clear hrd hf hR HS HF
  try clear a'
  have HS := HS2
  have HF := HF2
  clear HS2 HF2
  go_wp2_with fail
  refine ParE.wp_region_e (l := [_, _, _, _, _, _, _, _, _, _]) rfl (Rg.R1 w' 9 (fun w3 => XS w3 p C ∧ Fr [p] w' w3)) (ParC.VC [ParC.EQ (Value.pointer (some ⟨p, 0, none⟩)), ParC.EQ (Value.pointer (some ⟨p, 0, none⟩)), ParC.EQ (Value.int IntKind.u64 (A : Int)), ParC.EQ (Value.pointer (some ⟨p, 0, none⟩)), ParC.EQ (Value.pointer (some ⟨p, 0, none⟩)), ParC.EQ (Value.int IntKind.u64 (A : Int)), ParC.EQ (Value.int IntKind.u64 (t : Int)), ParC.EQ (Value.int IntKind.u64 (C : Int)), ParC.EQ (Value.pointer (some ⟨p, 0, none⟩)), fun _ => True]) (by kernel_rfl) (by kernel_rfl) (Rg.R1.start) ?_ ?_
  · refine ⟨fun L ρ w' hR hC hL hd hk => ?_, ?_⟩
    · exact Par.val_of_run rfl ⟨hR.other (by decide), hk.1⟩
    refine ⟨fun L ρ w' hR hC hL hd hk => ?_, ?_⟩
    · obtain ⟨k0, -⟩ := hk
      have e0 : ρ (.tmp 12) = Value.pointer (some ⟨p, 0, none⟩) := k0
      clear k0
      refine Par.val_k fun K hK => ?_
      unfold Par.val
      (go_simp; exact hK _ _ ⟨hR.other (by decide), rfl⟩)
    refine ⟨fun L ρ w' hR hC hL hd hk => ?_, ?_⟩
    · obtain ⟨k0, -⟩ := hk
      have e0 : ρ (.tmp 13) = Value.pointer (some ⟨p, 0, none⟩) := k0
      clear k0
      refine Par.val_k fun K hK => ?_
      unfold Par.val
      (have hx := hR.a (hC.notyet 9 2 hL (by kernel_rfl)); obtain ⟨cc, ff⟩ := XS.at (XS.ext hx HS.out); go_simp; exact hK _ _ ⟨hR.other (by decide), rfl⟩)
    refine ⟨fun L ρ w' hR hC hL hd hk => ?_, ?_⟩
    · exact Par.val_of_run rfl ⟨hR.other (by decide), hk.1⟩
    refine ⟨fun L ρ w' hR hC hL hd hk => ?_, ?_⟩
    · obtain ⟨k0, -⟩ := hk
      have e0 : ρ (.tmp 15) = Value.pointer (some ⟨p, 0, none⟩) := k0
      clear k0
      refine Par.val_k fun K hK => ?_
      unfold Par.val
      (go_simp; exact hK _ _ ⟨hR.other (by decide), rfl⟩)
    refine ⟨fun L ρ w' hR hC hL hd hk => ?_, ?_⟩
    · obtain ⟨k0, -⟩ := hk
      have e0 : ρ (.tmp 16) = Value.pointer (some ⟨p, 0, none⟩) := k0
      clear k0
      refine Par.val_k fun K hK => ?_
      unfold Par.val
      (have hx := hR.a (hC.notyet 9 5 hL (by kernel_rfl)); obtain ⟨cc, ff⟩ := XS.at (XS.ext hx HS.out); go_simp; exact hK _ _ ⟨hR.other (by decide), rfl⟩)
    refine ⟨fun L ρ w' hR hC hL hd hk => ?_, ?_⟩
    · obtain ⟨k0, k1, -⟩ := hk
      have e0 : ρ (.tmp 17) = Value.int IntKind.u64 (A : Int) := k0
      have e1 : ρ (Operand.const (Value.int IntKind.u64 7)) = (Value.int IntKind.u64 7) := k1
      clear k0 k1
      refine Par.val_k fun K hK => ?_
      unfold Par.val
      (go_simp; exact hK _ _ ⟨hR.other (by decide), rfl⟩)
    refine ⟨fun L ρ w' hR hC hL hd hk => ?_, ?_⟩
    · obtain ⟨k0, k1, -⟩ := hk
      have e0 : ρ (.tmp 14) = Value.int IntKind.u64 (A : Int) := k0
      have e1 : ρ (.tmp 18) = Value.int IntKind.u64 (t : Int) := k1
      clear k0 k1
      refine Par.val_k fun K hK => ?_
      unfold Par.val
      (go_simp; exact hK _ _ ⟨hR.other (by decide), rfl⟩)
    refine ⟨fun L ρ w' hR hC hL hd hk => ?_, ?_⟩
    · obtain ⟨k0, -⟩ := hk
      have e0 : ρ (.tmp 12) = Value.pointer (some ⟨p, 0, none⟩) := k0
      clear k0
      refine Par.val_k fun K hK => ?_
      unfold Par.val
      (go_simp; exact hK _ _ ⟨hR.other (by decide), rfl⟩)
    refine ⟨fun L ρ w' hR hC hL hd hk => ?_, ?_⟩
    · obtain ⟨k0, k1, -⟩ := hk
      have e0 : ρ (.tmp 20) = Value.pointer (some ⟨p, 0, none⟩) := k0
      have e1 : ρ (.tmp 19) = Value.int IntKind.u64 (C : Int) := k1
      clear k0 k1
      refine Par.val_k fun K hK => ?_
      unfold Par.val
      (have hx := hR.a hL; have hrow := XS.ext hx HS.out; obtain ⟨cc, ff⟩ := XS.at hrow; have hset := XS.set hrow C; have HSET := hid hset; clear hset hrow; go_simp; exact hK _ _ ⟨Rg.R1.last ⟨HSET.out.1, (Ext.fr hx).trans HSET.out.2⟩, trivial⟩)
    trivial
  intro a' w' inv hR
  have q12 : a'.tmps.getD 12 undef = Value.pointer (some ⟨p, 0, none⟩) := inv.done 0 _ 12 rfl rfl rfl
  have q13 : a'.tmps.getD 13 undef = Value.pointer (some ⟨p, 0, none⟩) := inv.done 1 _ 13 rfl rfl rfl
  have q14 : a'.tmps.getD 14 undef = Value.int IntKind.u64 (A : Int) := inv.done 2 _ 14 rfl rfl rfl
  have q15 : a'.tmps.getD 15 undef = Value.pointer (some ⟨p, 0, none⟩) := inv.done 3 _ 15 rfl rfl rfl
  have q16 : a'.tmps.getD 16 undef = Value.pointer (some ⟨p, 0, none⟩) := inv.done 4 _ 16 rfl rfl rfl
  have q17 : a'.tmps.getD 17 undef = Value.int IntKind.u64 (A : Int) := inv.done 5 _ 17 rfl rfl rfl
  have q18 : a'.tmps.getD 18 undef = Value.int IntKind.u64 (t : Int) := inv.done 6 _ 18 rfl rfl rfl
  have q19 : a'.tmps.getD 19 undef = Value.int IntKind.u64 (C : Int) := inv.done 7 _ 19 rfl rfl rfl
  have q20 : a'.tmps.getD 20 undef = Value.pointer (some ⟨p, 0, none⟩) := inv.done 8 _ 20 rfl rfl rfl
  clear inv
  simp only [List.filterMap_cons, List.filterMap_nil, Par.putAll, Act.put, List.setIfInBounds_toArray, List.set_cons_succ, List.set_cons_zero, q12, q13, q14, q15, q16, q17, q18, q19, q20]
  clear q12 q13 q14 q15 q16 q17 q18 q19 q20
  obtain ⟨hrd, hf⟩ := hR.z rfl; have HS2 := hid hrd; have HF2 := hid (HF.out.trans hf); clear hrd hf hR HS HF
  try clear a'
  have HS := HS2
  have HF := HF2
  clear HS2 HF2
  go_wp2_with fail
  refine ParE.wp_region_e (l := [_, _, _, _, _, _, _, _, _, _]) rfl (Rg.R1 w' 9 (fun w3 => XS w3 p E ∧ Fr [p] w' w3)) (ParC.VC [ParC.EQ (Value.pointer (some ⟨p, 0, none⟩)), ParC.EQ (Value.pointer (some ⟨p, 0, none⟩)), ParC.EQ (Value.int IntKind.u64 (C : Int)), ParC.EQ (Value.pointer (some ⟨p, 0, none⟩)), ParC.EQ (Value.pointer (some ⟨p, 0, none⟩)), ParC.EQ (Value.int IntKind.u64 (C : Int)), ParC.EQ (Value.int IntKind.u64 (u : Int)), ParC.EQ (Value.int IntKind.u64 (E : Int)), ParC.EQ (Value.pointer (some ⟨p, 0, none⟩)), fun _ => True]) (by kernel_rfl) (by kernel_rfl) (Rg.R1.start) ?_ ?_
  · refine ⟨fun L ρ w' hR hC hL hd hk => ?_, ?_⟩
    · exact Par.val_of_run rfl ⟨hR.other (by decide), hk.1⟩
    refine ⟨fun L ρ w' hR hC hL hd hk => ?_, ?_⟩
    · obtain ⟨k0, -⟩ := hk
      have e0 : ρ (.tmp 21) = Value.pointer (some ⟨p, 0, none⟩) := k0
      clear k0
      refine Par.val_k fun K hK => ?_
      unfold Par.val
      (go_simp; exact hK _ _ ⟨hR.other (by decide), rfl⟩)
    refine ⟨fun L ρ w' hR hC hL hd hk => ?_, ?_⟩
    · obtain ⟨k0, -⟩ := hk
      have e0 : ρ (.tmp 22) = Value.pointer (some ⟨p, 0, none⟩) := k0
      clear k0
      refine Par.val_k fun K hK => ?_
      unfold Par.val
      (have hx := hR.a (hC.notyet 9 2 hL (by kernel_rfl)); obtain ⟨cc, ff⟩ := XS.at (XS.ext hx HS.out); go_simp; exact hK _ _ ⟨hR.other (by decide), rfl⟩)
    refine ⟨fun L ρ w' hR hC hL hd hk => ?_, ?_⟩
    · exact Par.val_of_run rfl ⟨hR.other (by decide), hk.1⟩
    refine ⟨fun L ρ w' hR hC hL hd hk => ?_, ?_⟩
    · obtain ⟨k0, -⟩ := hk
      have e0 : ρ (.tmp 24) = Value.pointer (some ⟨p, 0, none⟩) := k0
      clear k0
      refine Par.val_k fun K hK => ?_
      unfold Par.val
      (go_simp; exact hK _ _ ⟨hR.other (by decide), rfl⟩)
    refine ⟨fun L ρ w' hR hC hL hd hk => ?_, ?_⟩
    · obtain ⟨k0, -⟩ := hk
      have e0 : ρ (.tmp 25) = Value.pointer (some ⟨p, 0, none⟩) := k0
      clear k0
      refine Par.val_k fun K hK => ?_
      unfold Par.val
      (have hx := hR.a (hC.notyet 9 5 hL (by kernel_rfl)); obtain ⟨cc, ff⟩ := XS.at (XS.ext hx HS.out); go_simp; exact hK _ _ ⟨hR.other (by decide), rfl⟩)
    refine ⟨fun L ρ w' hR hC hL hd hk => ?_, ?_⟩
    · obtain ⟨k0, k1, -⟩ := hk
      have e0 : ρ (.tmp 26) = Value.int IntKind.u64 (C : Int) := k0
      have e1 : ρ (Operand.const (Value.int IntKind.u64 17)) = (Value.int IntKind.u64 17) := k1
      clear k0 k1
      refine Par.val_k fun K hK => ?_
      unfold Par.val
      (go_simp; exact hK _ _ ⟨hR.other (by decide), rfl⟩)
    refine ⟨fun L ρ w' hR hC hL hd hk => ?_, ?_⟩
    · obtain ⟨k0, k1, -⟩ := hk
      have e0 : ρ (.tmp 23) = Value.int IntKind.u64 (C : Int) := k0
      have e1 : ρ (.tmp 27) = Value.int IntKind.u64 (u : Int) := k1
      clear k0 k1
      refine Par.val_k fun K hK => ?_
      unfold Par.val
      (go_simp; exact hK _ _ ⟨hR.other (by decide), rfl⟩)
    refine ⟨fun L ρ w' hR hC hL hd hk => ?_, ?_⟩
    · obtain ⟨k0, -⟩ := hk
      have e0 : ρ (.tmp 21) = Value.pointer (some ⟨p, 0, none⟩) := k0
      clear k0
      refine Par.val_k fun K hK => ?_
      unfold Par.val
      (go_simp; exact hK _ _ ⟨hR.other (by decide), rfl⟩)
    refine ⟨fun L ρ w' hR hC hL hd hk => ?_, ?_⟩
    · obtain ⟨k0, k1, -⟩ := hk
      have e0 : ρ (.tmp 29) = Value.pointer (some ⟨p, 0, none⟩) := k0
      have e1 : ρ (.tmp 28) = Value.int IntKind.u64 (E : Int) := k1
      clear k0 k1
      refine Par.val_k fun K hK => ?_
      unfold Par.val
      (have hx := hR.a hL; have hrow := XS.ext hx HS.out; obtain ⟨cc, ff⟩ := XS.at hrow; have hset := XS.set hrow E; have HSET := hid hset; clear hset hrow; go_simp; exact hK _ _ ⟨Rg.R1.last ⟨HSET.out.1, (Ext.fr hx).trans HSET.out.2⟩, trivial⟩)
    trivial
  intro a' w' inv hR
  have q21 : a'.tmps.getD 21 undef = Value.pointer (some ⟨p, 0, none⟩) := inv.done 0 _ 21 rfl rfl rfl
  have q22 : a'.tmps.getD 22 undef = Value.pointer (some ⟨p, 0, none⟩) := inv.done 1 _ 22 rfl rfl rfl
  have q23 : a'.tmps.getD 23 undef = Value.int IntKind.u64 (C : Int) := inv.done 2 _ 23 rfl rfl rfl
  have q24 : a'.tmps.getD 24 undef = Value.pointer (some ⟨p, 0, none⟩) := inv.done 3 _ 24 rfl rfl rfl
  have q25 : a'.tmps.getD 25 undef = Value.pointer (some ⟨p, 0, none⟩) := inv.done 4 _ 25 rfl rfl rfl
  have q26 : a'.tmps.getD 26 undef = Value.int IntKind.u64 (C : Int) := inv.done 5 _ 26 rfl rfl rfl
  have q27 : a'.tmps.getD 27 undef = Value.int IntKind.u64 (u : Int) := inv.done 6 _ 27 rfl rfl rfl
  have q28 : a'.tmps.getD 28 undef = Value.int IntKind.u64 (E : Int) := inv.done 7 _ 28 rfl rfl rfl
  have q29 : a'.tmps.getD 29 undef = Value.pointer (some ⟨p, 0, none⟩) := inv.done 8 _ 29 rfl rfl rfl
  clear inv
  simp only [List.filterMap_cons, List.filterMap_nil, Par.putAll, Act.put, List.setIfInBounds_toArray, List.set_cons_succ, List.set_cons_zero, q21, q22, q23, q24, q25, q26, q27, q28, q29]
  clear q21 q22 q23 q24 q25 q26 q27 q28 q29
  obtain ⟨hrd, hf⟩ := hR.z rfl; have HS2 := hid hrd; have HF2 := hid (HF.out.trans hf); clear hrd hf hR HS HF
  try clear a'
  have HS := HS2
  have HF := HF2
  clear HS2 HF2
  obtain ⟨cc, ff⟩ := XS.at HS.out
  go_wp2
  go_returns
  exact ⟨⟨E, rfl, lE, HS.out⟩, HF.out⟩
theorem wrapP (k : Nat) (hk : k ≤ 62) : IntKind.u64.wrap ((2 : Int) ^ k) = ((2 ^ k : Nat) : Int) := by
  have h : (2 : Nat) ^ k ≤ 2 ^ 62 := Nat.pow_le_pow_right (by decide) hk
  rw [IntKind.wrap_u64, show ((2 : Int) ^ k) = ((2 ^ k : Nat) : Int) by push_cast; rfl]
  generalize (2 : Nat) ^ k = p at h
  omega
theorem npowV_any (n : Nat) (hn1 : 0 < n) (hn : n ≤ 4611686018427387903) (w : World) :
    Calls Tryd.prog 52 #[.int .i64 (n : Int)] w fun e w' => (∃ m : Nat, e = .returned (.int .u64 (m : Int)) ∧ 0 < m ∧ m ≤ 2 * n) ∧ w' = w := by
  have hk : bitsLen n ≤ 62 := (bitsLen_le_iff n 62).2 (by omega)
  have hp := wrapP (bitsLen n) hk
  have h2 := two_pow_bitsLen_le hn1
  have h3 : 0 < 2 ^ bitsLen n := Nat.two_pow_pos _
  have hLen : ∀ w, Calls Tryd.prog 39 #[.int .u64 (n : Int)] w fun e w' => e = .returned (.int .i64 (bitsLen n : Nat)) ∧ w' = w := fun w => by
    have h := Tryd.bits_Len (n : Int) w (by omega) (by omega)
    rwa [Int.toNat_natCast, bitLen_eq _ (by omega)] at h
  have HL := hid hLen
  have H2 := hid h2
  have H3 := hid h3
  have hwn : IntKind.u64.wrap (n : Int) = (n : Int) := by rw [IntKind.wrap_u64]; omega
  obtain ⟨m, hm⟩ : ∃ m, m = 2 ^ bitsLen n := ⟨_, rfl⟩
  rw [← hm] at hp
  have HM := hid hm
  clear hLen h2 h3 hm
  go_enter Tryd.func52, Tryd.ntmps52
  go_wp2_with fail
  refine (HL.out w).mono ?_
  rintro e w1 ⟨rfl, rfl⟩
  go_wp2
  go_returns
  exact ⟨⟨m, rfl, by rw [HM.out]; exact H3.out, by rw [HM.out]; exact H2.out⟩, rfl⟩
end Go.Proofs.YtpbmbjdiilnaeaaDoor
