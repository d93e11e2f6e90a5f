/- Names of files: FormatUint, letter, Of. -/
import Derived.Test.YtekjflndblgegaaDoorNamS
import Derived.Test.YtekjflndblgegaaDoorNamM
import Derived.Test.YtekjflndblgegaaDoorDskN
import Derived.Lib.ItoaMem
import Derived.Sort.Grow
set_option linter.unusedSimpArgs false
set_option linter.unusedVariables false
namespace Go.Proofs.YtekjflndblgegaaDoor
open Go Go.RowKit Go.Tum Go.ChangeMaps Go.Sort Go.Nam

abbrev u8V (k : UInt8) : Value := .int .u8 (k.toNat : Int)
abbrev e8 (b : UInt8) : Value := .int .u8 (b.toNat : Int)
theorem holds0 (w : World) (T : TypeId) (nd : Nat) (hs : nd ≤ 24) : Holds e8 (w.alloc (.cells Lib.zeros24 T)) w.heap.size 0 (Array.replicate nd (0 : UInt8)) := by
  intro j hj
  have hj2 : j < nd := by simpa using hj
  refine ⟨?_, World.frozen?_alloc_new _ _ _ _⟩
  rw [World.cell?_alloc_new, Lib.zeros24_at _ (by omega), getElem!_pos _ j hj]
  simp
theorem ext_fin (w : World) (o : Obj) (dk : Array UInt8) (k : Nat) : Ext w ((putRow e8 (w.alloc o) w.heap.size 0 dk).drewN k) := by
  obtain ⟨os, -, e⟩ := putRow_grow_new e8 w #[o] w.heap.size 0 dk (Nat.le_refl _)
  rw [alloc_eq_grow, e]
  refine Ext.trans ?_ (Ext.drewN _ _)
  exact ⟨rfl, rfl, rfl, by simp [grow], fun j hj => heap_grow_old w os hj⟩
/-- The table of powers. -/
abbrev Pw (w : World) : Prop := Lib.TabIs Tryd.prog w "internal/strconv.uint64pow10" .u64 Lib.pow10Tab
set_option maxRecDepth 100000 in
set_option maxHeartbeats 1000000 in
theorem fmt_in (u : Nat) (hu64 : u < 18446744073709551616) (w : World) (htab : Pw w) :
    Calls Tryd.prog 26 #[.int .u64 (u : Int), .int .i64 10] w fun e w' => e = .returned (.string (str (dec u))) ∧ Ext w w' := by
  by_cases hs : u < 100
  · have hd : decide ((u : Int) < 100) = true := by simp; omega
    have hwr : IntKind.i64.wrap (u : Int) = (u : Int) := IntWalk.i64_in _ (by omega)
    have HS := hid hs
    clear hs
    go_enter Tryd.func26, Tryd.ntmps26
    go_wp2_with fail
    refine (Tryd.internal_strconv_small u HS.out _).mono ?_
    rintro e w' ⟨rfl, rfl⟩
    go_wp2
    go_ret
    exact ⟨rfl, Ext.refl _⟩
  · have hd : decide ((u : Int) < 100) = false := by simp; omega
    have hu1 : 1 ≤ u := by omega
    have hnd20 : Lib.nDigits u ≤ 20 := by have := Lib.numDigits_eq u hu1 hu64; split at this <;> omega
    have hfmt := Tryd.internal_strconv_formatBase10 w.heap.size 0 24 u (Array.replicate (Lib.nDigits u) 0) (w.alloc (.cells Lib.zeros24 66)) (holds0 w _ _ (by omega)) (by rw [Array.size_replicate]; exact Lib.lt_pow_nDigits u) hu64 (by rw [Array.size_replicate]; omega)
    rw [Array.size_replicate] at hfmt
    have HH := hid (holds0 w 66 (Lib.nDigits u) (by omega))
    have HFM := hid hfmt
    have HU1 := hid hu1
    have HDL := hid (Lib.decDigits_length u)
    obtain ⟨nd, hnd⟩ : ∃ k, Lib.nDigits u = k := ⟨_, rfl⟩
    have HND := hid hnd
    rw [hnd] at hnd20 HFM HH HDL
    have hsl : ∀ W, (Instr.sliceAt 66 (.pointer (some ⟨w.heap.size, 0, none⟩)) none (some (.int .i64 (nd : Int))) none).run Tryd.prog W = .ok (.slice (some ⟨w.heap.size, 0, none⟩) nd 24) W := fun W => by
      rw [run_sliceAt_array_h W 66 ⟨w.heap.size, 0, none⟩ (by kernel_rfl) .i64 (nd : Int) (by omega) (by rw [show Tryd.prog.arrayLen 66 = 24 by kernel_rfl]; omega)]
      have e1 : Tryd.prog.arrayLen 66 = 24 := by kernel_rfl
      have e2 : Tryd.prog.elem 66 = 5 := by kernel_rfl
      rw [e1, e2, Tryd.sizeOf5 W]
      simp [slicedAt, Lib.add_plain]
    clear hs hu1 hfmt hnd
    go_enter Tryd.func26, Tryd.ntmps26
    go_wp2_with fail
    refine (Tryd.internal_strconv_numDigits u HU1.out hu64 _ (Lib.tabIs_alloc htab _)).mono ?_
    rintro e w' ⟨rfl, rfl⟩
    rw [HND.out]
    go_wp2_with fail
    refine HFM.out.mono ?_
    rintro e w' ⟨rfl, k, v', dk, rfl, hF⟩
    have hsz : dk.size = nd := by have := hF.size; simpa using this
    have hcv : (convert 45 9 (.slice (some ⟨w.heap.size, 0, none⟩) nd 24)).run Tryd.prog ((putRow e8 (w.alloc (.cells Lib.zeros24 66)) w.heap.size 0 dk).drewN k) = .ok (.string (str (dec u))) ((putRow e8 (w.alloc (.cells Lib.zeros24 66)) w.heap.size 0 dk).drewN k) := by
      have h := run_convert_bytes_back (P := Tryd.prog) ((putRow e8 (w.alloc (.cells Lib.zeros24 66)) w.heap.size 0 dk).drewN k) 45 9 5 ⟨w.heap.size, 0, none⟩ 24 (dec u) Tryd.underlying45 Tryd.underlying5 Tryd.underlying9 (fun j hj => by
        have hF2 := hF
        rw [← HND.out] at hF2
        rw [Lib.row_is_numeral hF2 j hj, Lib.add_plain, World.cell?_drewN]
        exact cell?_putRow e8 _ w.heap.size 0 _ dk HH.out (by rw [hsz, Array.size_replicate]) j (by rw [hsz]; rw [HDL.out] at hj; exact hj))
      rw [HDL.out] at h
      exact h
    have HX := hid (ext_fin w (.cells Lib.zeros24 66) dk k)
    clear hF hsz
    go_wp2
    go_ret
    exact ⟨rfl, HX.out⟩
theorem fmt_any (u : Nat) (hu64 : u < 18446744073709551616) (w : World) (htab : Pw w) :
    Calls Tryd.prog 18 #[.int .u64 (u : Int), .int .i64 10] w fun e w' => e = .returned (.string (str (dec u))) ∧ Ext w w' := by
  have HF := hid (fmt_in u hu64 w htab)
  clear htab
  go_enter Tryd.func18, Tryd.ntmps18
  go_wp2_with fail
  refine HF.out.mono ?_
  rintro e w1 ⟨rfl, hx⟩
  have HX := hid hx
  clear hx
  go_wp2
  go_ret
  exact ⟨rfl, HX.out⟩
theorem letter_eq (k : UInt8) : letL k = (((k.toNat : Int) == 109) || (((k.toNat : Int) == 101) || ((k.toNat : Int) == 115))) := by
  have h : ∀ c : UInt8, (k == c) = ((k.toNat : Int) == (c.toNat : Int)) := fun c => by
    by_cases e : k = c
    · subst e; rw [beq_self_eq_true, beq_self_eq_true]
    · have h1 : k.toNat ≠ c.toNat := fun e2 => e (UInt8.toNat_inj.1 e2)
      have h2 : ((k.toNat : Int) == (c.toNat : Int)) = false := by rw [beq_eq_false_iff_ne]; omega
      rw [h2]
      exact beq_eq_false_iff_ne.2 e
  unfold letL
  rw [h, h, h]
  rfl
theorem letter_any (k : UInt8) (w : World) : Calls Tryd.prog 17 #[u8V k] w fun e w' => e = .returned (.bool (letL k)) ∧ w' = w := by
  rw [letter_eq]
  obtain ⟨n, hn⟩ : ∃ n, k.toNat = n := ⟨_, rfl⟩
  unfold u8V
  rw [hn]
  clear hn
  by_cases h1 : n = 109
  · subst h1
    go_enter Tryd.func17, Tryd.ntmps17
    go_wp2
    go_ret
    exact ⟨rfl, rfl⟩
  by_cases h2 : n = 101
  · subst h2
    go_enter Tryd.func17, Tryd.ntmps17
    go_wp2
    go_ret
    exact ⟨rfl, rfl⟩
  by_cases h3 : n = 115
  · subst h3
    go_enter Tryd.func17, Tryd.ntmps17
    go_wp2
    go_ret
    exact ⟨rfl, rfl⟩
  · have e1 : ((n : Int) == 109) = false := by simp; omega
    have e2 : ((n : Int) == 101) = false := by simp; omega
    have e3 : ((n : Int) == 115) = false := by simp; omega
    go_enter Tryd.func17, Tryd.ntmps17
    go_wp2
    go_ret
    exact ⟨by rw [e1, e2, e3]; rfl, rfl⟩
def ofL (k : UInt8) (n : Nat) : List UInt8 × Int := if letL k && decide (n < 10000000000) then (nameL k n, 0) else ([], 1)
end Go.Proofs.YtekjflndblgegaaDoor
