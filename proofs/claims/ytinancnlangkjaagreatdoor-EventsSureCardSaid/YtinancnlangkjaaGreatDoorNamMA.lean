/- Names of files: Of, Read.
The shelf's contracts of library functions, laid at this program by the kit's lay-shelf and lay-plain, trimmed.
Names of files: FormatUint, letter, Of. -/
import Derived.Shelf.Small.Bits
import Derived.Shelf.Strconv.Itoa0
import Derived.Shelf.Strconv.Itoa1
import Derived.Shelf.LaysM
import Derived.Shelf.Strconv.Itoa2
import Derived.Test.YtinancnlangkjaaGreatDoorProg
import Derived.Test.YtinancnlangkjaaGreatDoorNamM
import Derived.Test.YtinancnlangkjaaGreatDoorDskN
import Derived.Lib.ItoaMem
import Derived.Sort.Grow
import Derived.Laws.RangeString
import Derived.Laws.RangeAny
import Derived.Laws.DeepStrings4
namespace Go.Proofs
open Go.Shelf
def Tryz.lays125_ren : Go.Shelf.Ren := ⟨fun | 125 => 119 | 128 => 137 | 129 => 138 | n => n, fun | 46 => 174 | 3 => 3 | 51 => 182 | 53 => 32 | 4 => 4 | 5 => 5 | 9 => 9 | n => n, fun | n => n⟩
theorem Tryz.lays125 : Go.Proofs.Lays.n125 Tryz.prog Tryz.lays125_ren := {
  mixed := by kernel_rfl
  f125 := Tryz.func119.trans (congrArg some (by kernel_rfl))
  f128 := Tryz.func137.trans (congrArg some (by kernel_rfl))
  f129 := Tryz.func138.trans (congrArg some (by kernel_rfl))
  t3 := Tryz.underlying3
  a3 := Tryz.isAgg3
  z3 := Tryz.sizeOf3
  v3 := Tryz.zeroValue3
  t4 := Tryz.underlying4
  a4 := Tryz.isAgg4
  z4 := Tryz.sizeOf4
  v4 := Tryz.zeroValue4
  t5 := Tryz.underlying5
  a5 := Tryz.isAgg5
  z5 := Tryz.sizeOf5
  v5 := Tryz.zeroValue5
  t9 := Tryz.underlying9
  a9 := Tryz.isAgg9
  z9 := Tryz.sizeOf9
  v9 := Tryz.zeroValue9
  t46 := Tryz.underlying174
  a46 := Tryz.isAgg174
  z46 := Tryz.sizeOf174
  v46 := Tryz.zeroValue174
  t51 := Tryz.underlying182
  a51 := Tryz.isAgg182
  z51 := Tryz.sizeOf182
  v51 := Tryz.zeroValue182
  t53 := Tryz.underlying32
  a53 := Tryz.isAgg32
  z53 := Tryz.sizeOf32
  v53 := Tryz.zeroValue32 }
theorem Tryz.bits_Len (x : Int) (w : World) (h0 : 0 ≤ x) (h1 : x ≤ 18446744073709551615) :
    Calls Tryz.prog 119 #[.int .u64 x] w fun e w' => e = .returned (.int .i64 (Lib.bitLen x.toNat)) ∧ w' = w := Any.bits_Len Tryz.lays125 x w h0 h1
def Tryz.lays129_ren : Go.Shelf.Ren := ⟨fun | 129 => 138 | n => n, fun | 53 => 32 | 3 => 3 | 4 => 4 | 46 => 174 | 5 => 5 | 9 => 9 | n => n, fun | n => n⟩
theorem Tryz.lays129 : Go.Proofs.Lays.n129 Tryz.prog Tryz.lays129_ren := {
  mixed := by kernel_rfl
  f129 := Tryz.func138.trans (congrArg some (by kernel_rfl))
  t3 := Tryz.underlying3
  a3 := Tryz.isAgg3
  z3 := Tryz.sizeOf3
  v3 := Tryz.zeroValue3
  t4 := Tryz.underlying4
  a4 := Tryz.isAgg4
  z4 := Tryz.sizeOf4
  v4 := Tryz.zeroValue4
  t5 := Tryz.underlying5
  a5 := Tryz.isAgg5
  z5 := Tryz.sizeOf5
  v5 := Tryz.zeroValue5
  t9 := Tryz.underlying9
  a9 := Tryz.isAgg9
  z9 := Tryz.sizeOf9
  v9 := Tryz.zeroValue9
  t46 := Tryz.underlying174
  a46 := Tryz.isAgg174
  z46 := Tryz.sizeOf174
  v46 := Tryz.zeroValue174
  t53 := Tryz.underlying32
  a53 := Tryz.isAgg32
  z53 := Tryz.sizeOf32
  v53 := Tryz.zeroValue32 }
theorem Tryz.bits_Len64 (x : Int) (w : World) (h0 : 0 ≤ x) (h1 : x ≤ 18446744073709551615) :
    Calls Tryz.prog 138 #[.int .u64 x] w fun e w' => e = .returned (.int .i64 (Lib.bitLen x.toNat)) ∧ w' = w := Any.bits_Len64 Tryz.lays129 x w h0 h1
def Tryz.lays317_ren : Go.Shelf.Ren := ⟨fun | 317 => 139 | n => n, fun | 3 => 3 | 46 => 174 | n => n, fun | n => n⟩
theorem Tryz.lays317 : Go.Proofs.Lays.n317 Tryz.prog Tryz.lays317_ren := {
  mixed := by kernel_rfl
  f317 := Tryz.func139.trans (congrArg some (by kernel_rfl))
  t3 := Tryz.underlying3
  a3 := Tryz.isAgg3
  z3 := Tryz.sizeOf3
  v3 := Tryz.zeroValue3
  t46 := Tryz.underlying174
  a46 := Tryz.isAgg174
  z46 := Tryz.sizeOf174
  v46 := Tryz.zeroValue174 }
open Go.Lib in
theorem Tryz.internal_strconv_log10Pow2 (x : Nat) (h : x ≤ 64) (w : World) :
    Calls Tryz.prog 139 #[.int .i64 x] w fun e w' => e = .returned (.int .i64 (Lib.l10 x)) ∧ w' = w := Any.internal_strconv_log10Pow2 Tryz.lays317 x h w
def Tryz.lays318_ren : Go.Shelf.Ren := ⟨fun | 318 => 140 | n => n, fun | 3 => 3 | 4 => 4 | n => n, fun | n => n⟩
theorem Tryz.lays318 : Go.Proofs.Lays.n318 Tryz.prog Tryz.lays318_ren := {
  mixed := by kernel_rfl
  f318 := Tryz.func140.trans (congrArg some (by kernel_rfl))
  t3 := Tryz.underlying3
  a3 := Tryz.isAgg3
  z3 := Tryz.sizeOf3
  v3 := Tryz.zeroValue3
  t4 := Tryz.underlying4
  a4 := Tryz.isAgg4
  z4 := Tryz.sizeOf4
  v4 := Tryz.zeroValue4 }
open Go.Lib in
theorem Tryz.internal_strconv_bool2_int (b : Bool) (w : World) :
    Calls Tryz.prog 140 #[.bool b] w fun e w' => e = .returned (.int .i64 (if b then 1 else 0)) ∧ w' = w := Any.internal_strconv_bool2_int Tryz.lays318 b w
def Tryz.lays283_ren : Go.Shelf.Ren := ⟨fun | 283 => 120 | n => n, fun | 3 => 3 | 9 => 9 | 4 => 4 | n => n, fun | n => n⟩
theorem Tryz.lays283 : Go.Proofs.Lays.n283 Tryz.prog Tryz.lays283_ren := {
  mixed := by kernel_rfl
  f283 := Tryz.func120.trans (congrArg some (by kernel_rfl))
  t3 := Tryz.underlying3
  a3 := Tryz.isAgg3
  z3 := Tryz.sizeOf3
  v3 := Tryz.zeroValue3
  t4 := Tryz.underlying4
  a4 := Tryz.isAgg4
  z4 := Tryz.sizeOf4
  v4 := Tryz.zeroValue4
  t9 := Tryz.underlying9
  a9 := Tryz.isAgg9
  z9 := Tryz.sizeOf9
  v9 := Tryz.zeroValue9 }
open Go.Lib in
theorem Tryz.internal_strconv_small (i : Nat) (h : i < 100) (w : World) :
    Calls Tryz.prog 120 #[.int .i64 i] w fun e w' => e = .returned (.string ⟨(Lib.decDigits i).toArray⟩) ∧ w' = w := Any.internal_strconv_small Tryz.lays283 i h w
def Tryz.laysM284_ren : Go.Shelf.Ren := ⟨fun | 284 => 121 | 129 => 138 | 317 => 139 | 318 => 140 | n => n, fun | 53 => 32 | 3 => 3 | 212 => 195 | 0 => 0 | 4 => 4 | 46 => 174 | 5 => 5 | 9 => 9 | n => n, fun | 17 => 2 | n => n⟩
theorem Tryz.laysM284 : Go.Proofs.LaysM.n284 Tryz.prog Tryz.laysM284_ren := {
  mixed := by kernel_rfl
  f129 := Tryz.func138.trans (congrArg some (by kernel_rfl))
  f284 := Tryz.func121.trans (congrArg some (by kernel_rfl))
  f317 := Tryz.func139.trans (congrArg some (by kernel_rfl))
  f318 := Tryz.func140.trans (congrArg some (by kernel_rfl))
  t0 := Tryz.underlying0
  a0 := Tryz.isAgg0
  z0 := Tryz.sizeOf0
  v0 := Tryz.zeroValue0
  t3 := Tryz.underlying3
  a3 := Tryz.isAgg3
  z3 := Tryz.sizeOf3
  v3 := Tryz.zeroValue3
  t4 := Tryz.underlying4
  a4 := Tryz.isAgg4
  z4 := Tryz.sizeOf4
  v4 := Tryz.zeroValue4
  t5 := Tryz.underlying5
  a5 := Tryz.isAgg5
  z5 := Tryz.sizeOf5
  v5 := Tryz.zeroValue5
  t9 := Tryz.underlying9
  a9 := Tryz.isAgg9
  z9 := Tryz.sizeOf9
  v9 := Tryz.zeroValue9
  t46 := Tryz.underlying174
  a46 := Tryz.isAgg174
  z46 := Tryz.sizeOf174
  v46 := Tryz.zeroValue174
  t53 := Tryz.underlying32
  a53 := Tryz.isAgg32
  z53 := Tryz.sizeOf32
  v53 := Tryz.zeroValue32
  t212 := Tryz.underlying195
  a212 := Tryz.isAgg195
  z212 := Tryz.sizeOf195
  v212 := Tryz.zeroValue195
  g17 := by kernel_rfl
  i0 := by kernel_rfl
  i3 := by kernel_rfl
  i4 := by kernel_rfl
  i5 := by kernel_rfl
  i9 := by kernel_rfl
  i46 := by kernel_rfl
  i53 := by kernel_rfl
  i212 := by kernel_rfl
  m17 := by kernel_rfl }
open Go.Lib in
theorem Tryz.internal_strconv_numDigits (u : Nat) (h1 : 1 ≤ u) (h2 : u < 18446744073709551616) (w : World) (htab : Lib.TabIs Tryz.prog w "internal/strconv.uint64pow10" .u64 Lib.pow10Tab) :
    Calls Tryz.prog 121 #[.int .u64 u] w fun e w' => e = .returned (.int .i64 (Lib.nDigits u)) ∧ w' = w := Any.internal_strconv_numDigits Tryz.laysM284 u h1 h2 w htab
def Tryz.lays285_ren : Go.Shelf.Ren := ⟨fun | 285 => 122 | n => n, fun | 37 => 35 | 53 => 32 | 3 => 3 | 4 => 4 | 51 => 182 | 9 => 9 | 5 => 5 | 0 => 0 | n => n, fun | n => n⟩
theorem Tryz.lays285 : Go.Proofs.Lays.n285 Tryz.prog Tryz.lays285_ren := {
  mixed := by kernel_rfl
  f285 := Tryz.func122.trans (congrArg some (by kernel_rfl))
  t0 := Tryz.underlying0
  a0 := Tryz.isAgg0
  z0 := Tryz.sizeOf0
  v0 := Tryz.zeroValue0
  t3 := Tryz.underlying3
  a3 := Tryz.isAgg3
  z3 := Tryz.sizeOf3
  v3 := Tryz.zeroValue3
  t4 := Tryz.underlying4
  a4 := Tryz.isAgg4
  z4 := Tryz.sizeOf4
  v4 := Tryz.zeroValue4
  t5 := Tryz.underlying5
  a5 := Tryz.isAgg5
  z5 := Tryz.sizeOf5
  v5 := Tryz.zeroValue5
  t9 := Tryz.underlying9
  a9 := Tryz.isAgg9
  z9 := Tryz.sizeOf9
  v9 := Tryz.zeroValue9
  t37 := Tryz.underlying35
  a37 := Tryz.isAgg35
  z37 := Tryz.sizeOf35
  v37 := Tryz.zeroValue35
  t51 := Tryz.underlying182
  a51 := Tryz.isAgg182
  z51 := Tryz.sizeOf182
  v51 := Tryz.zeroValue182
  t53 := Tryz.underlying32
  a53 := Tryz.isAgg32
  z53 := Tryz.sizeOf32
  v53 := Tryz.zeroValue32 }
open Go.RowKit Go.Sort Go.Lib in
theorem Tryz.internal_strconv_formatBase10 (blk off cap : Nat) (u : Nat) (d : Array UInt8) (w : World) (hH : Holds (fun (b : UInt8) => Value.int .u8 (b.toNat : Int)) w blk off d) (hu : u < 10 ^ d.size) (hu64 : u < 18446744073709551616) (hsz : d.size < 4611686018427387904) :
    Calls Tryz.prog 122 #[.slice (some ⟨blk, off, none⟩) d.size cap, .int .u64 u] w fun e w' =>
      e = .returned (.tuple #[]) ∧ ∃ (n v' : Nat) (dk : Array UInt8), w' = (putRow (fun (b : UInt8) => Value.int .u8 (b.toNat : Int)) w blk off dk).drewN n ∧ FmtInv d.size u 0 v' dk := Any.internal_strconv_formatBase10 Tryz.lays285 blk off cap u d w hH hu hu64 hsz
end Go.Proofs

set_option linter.unusedSimpArgs false
set_option linter.unusedVariables false
namespace Go.Proofs.YtinancnlangkjaaGreatDoor
open Go Go.RowKit Go.Tum Go.ChangeMaps Go.Sort Go.Nam

abbrev u8V (k : UInt8) : Value := .int .u8 (k.toNat : Int)
abbrev e8 (b : UInt8) : Value := .int .u8 (b.toNat : Int)
theorem holds0 (w : World) (T : TypeId) (nd : Nat) (hs : nd ≤ 24) : Holds e8 (w.alloc (.cells Lib.zeros24 T)) w.heap.size 0 (Array.replicate nd (0 : UInt8)) := by
  intro j hj
  have hj2 : j < nd := by simpa using hj
  refine ⟨?_, World.frozen?_alloc_new _ _ _ _⟩
  rw [World.cell?_alloc_new, Lib.zeros24_at _ (by omega), getElem!_pos _ j hj]
  simp
theorem ext_fin (w : World) (o : Obj) (dk : Array UInt8) (k : Nat) : Ext w ((putRow e8 (w.alloc o) w.heap.size 0 dk).drewN k) := by
  obtain ⟨os, -, e⟩ := putRow_grow_new e8 w #[o] w.heap.size 0 dk (Nat.le_refl _)
  rw [alloc_eq_grow, e]
  refine Ext.trans ?_ (Ext.drewN _ _)
  exact ⟨rfl, rfl, rfl, by simp [grow], fun j hj => heap_grow_old w os hj⟩
/-- The table of powers. -/
abbrev Pw (w : World) : Prop := Lib.TabIs Tryz.prog w "internal/strconv.uint64pow10" .u64 Lib.pow10Tab
set_option maxRecDepth 100000 in
set_option maxHeartbeats 1000000 in
theorem fmt_in (u : Nat) (hu64 : u < 18446744073709551616) (w : World) (htab : Pw w) :
    Calls Tryz.prog 102 #[.int .u64 (u : Int), .int .i64 10] w fun e w' => e = .returned (.string (str (dec u))) ∧ Ext w w' := by
  by_cases hs : u < 100
  · have hd : decide ((u : Int) < 100) = true := by simp; omega
    have hwr : IntKind.i64.wrap (u : Int) = (u : Int) := IntWalk.i64_in _ (by omega)
    have HS := hid hs
    clear hs
    go_enter Tryz.func102, Tryz.ntmps102
    go_wp2_with fail
    refine (Tryz.internal_strconv_small u HS.out _).mono ?_
    rintro e w' ⟨rfl, rfl⟩
    go_wp2
    go_ret
    exact ⟨rfl, Ext.refl _⟩
  · have hd : decide ((u : Int) < 100) = false := by simp; omega
    have hu1 : 1 ≤ u := by omega
    have hnd20 : Lib.nDigits u ≤ 20 := by have := Lib.numDigits_eq u hu1 hu64; split at this <;> omega
    have hfmt := Tryz.internal_strconv_formatBase10 w.heap.size 0 24 u (Array.replicate (Lib.nDigits u) 0) (w.alloc (.cells Lib.zeros24 176)) (holds0 w _ _ (by omega)) (by rw [Array.size_replicate]; exact Lib.lt_pow_nDigits u) hu64 (by rw [Array.size_replicate]; omega)
    rw [Array.size_replicate] at hfmt
    have HH := hid (holds0 w 176 (Lib.nDigits u) (by omega))
    have HFM := hid hfmt
    have HU1 := hid hu1
    have HDL := hid (Lib.decDigits_length u)
    obtain ⟨nd, hnd⟩ : ∃ k, Lib.nDigits u = k := ⟨_, rfl⟩
    have HND := hid hnd
    rw [hnd] at hnd20 HFM HH HDL
    have hsl : ∀ W, (Instr.sliceAt 176 (.pointer (some ⟨w.heap.size, 0, none⟩)) none (some (.int .i64 (nd : Int))) none).run Tryz.prog W = .ok (.slice (some ⟨w.heap.size, 0, none⟩) nd 24) W := fun W => by
      rw [run_sliceAt_array_h W 176 ⟨w.heap.size, 0, none⟩ (by kernel_rfl) .i64 (nd : Int) (by omega) (by rw [show Tryz.prog.arrayLen 176 = 24 by kernel_rfl]; omega)]
      have e1 : Tryz.prog.arrayLen 176 = 24 := by kernel_rfl
      have e2 : Tryz.prog.elem 176 = 5 := by kernel_rfl
      rw [e1, e2, Tryz.sizeOf5 W]
      simp [slicedAt, Lib.add_plain]
    clear hs hu1 hfmt hnd
    go_enter Tryz.func102, Tryz.ntmps102
    go_wp2_with fail
    refine (Tryz.internal_strconv_numDigits u HU1.out hu64 _ (Lib.tabIs_alloc htab _)).mono ?_
    rintro e w' ⟨rfl, rfl⟩
    rw [HND.out]
    go_wp2_with fail
    refine HFM.out.mono ?_
    rintro e w' ⟨rfl, k, v', dk, rfl, hF⟩
    have hsz : dk.size = nd := by have := hF.size; simpa using this
    have hcv : (convert 35 9 (.slice (some ⟨w.heap.size, 0, none⟩) nd 24)).run Tryz.prog ((putRow e8 (w.alloc (.cells Lib.zeros24 176)) w.heap.size 0 dk).drewN k) = .ok (.string (str (dec u))) ((putRow e8 (w.alloc (.cells Lib.zeros24 176)) w.heap.size 0 dk).drewN k) := by
      have h := run_convert_bytes_back (P := Tryz.prog) ((putRow e8 (w.alloc (.cells Lib.zeros24 176)) w.heap.size 0 dk).drewN k) 35 9 5 ⟨w.heap.size, 0, none⟩ 24 (dec u) Tryz.underlying35 Tryz.underlying5 Tryz.underlying9 (fun j hj => by
        have hF2 := hF
        rw [← HND.out] at hF2
        rw [Lib.row_is_numeral hF2 j hj, Lib.add_plain, World.cell?_drewN]
        exact cell?_putRow e8 _ w.heap.size 0 _ dk HH.out (by rw [hsz, Array.size_replicate]) j (by rw [hsz]; rw [HDL.out] at hj; exact hj))
      rw [HDL.out] at h
      exact h
    have HX := hid (ext_fin w (.cells Lib.zeros24 176) dk k)
    clear hF hsz
    go_wp2
    go_ret
    exact ⟨rfl, HX.out⟩
theorem fmt_any (u : Nat) (hu64 : u < 18446744073709551616) (w : World) (htab : Pw w) :
    Calls Tryz.prog 73 #[.int .u64 (u : Int), .int .i64 10] w fun e w' => e = .returned (.string (str (dec u))) ∧ Ext w w' := by
  have HF := hid (fmt_in u hu64 w htab)
  clear htab
  go_enter Tryz.func73, Tryz.ntmps73
  go_wp2_with fail
  refine HF.out.mono ?_
  rintro e w1 ⟨rfl, hx⟩
  have HX := hid hx
  clear hx
  go_wp2
  go_ret
  exact ⟨rfl, HX.out⟩
theorem letter_eq (k : UInt8) : letL k = (((k.toNat : Int) == 109) || (((k.toNat : Int) == 101) || ((k.toNat : Int) == 115))) := by
  have h : ∀ c : UInt8, (k == c) = ((k.toNat : Int) == (c.toNat : Int)) := fun c => by
    by_cases e : k = c
    · subst e; rw [beq_self_eq_true, beq_self_eq_true]
    · have h1 : k.toNat ≠ c.toNat := fun e2 => e (UInt8.toNat_inj.1 e2)
      have h2 : ((k.toNat : Int) == (c.toNat : Int)) = false := by rw [beq_eq_false_iff_ne]; omega
      rw [h2]
      exact beq_eq_false_iff_ne.2 e
  unfold letL
  rw [h, h, h]
  rfl
theorem letter_any (k : UInt8) (w : World) : Calls Tryz.prog 72 #[u8V k] w fun e w' => e = .returned (.bool (letL k)) ∧ w' = w := by
  rw [letter_eq]
  obtain ⟨n, hn⟩ : ∃ n, k.toNat = n := ⟨_, rfl⟩
  unfold u8V
  rw [hn]
  clear hn
  by_cases h1 : n = 109
  · subst h1
    go_enter Tryz.func72, Tryz.ntmps72
    go_wp2
    go_ret
    exact ⟨rfl, rfl⟩
  by_cases h2 : n = 101
  · subst h2
    go_enter Tryz.func72, Tryz.ntmps72
    go_wp2
    go_ret
    exact ⟨rfl, rfl⟩
  by_cases h3 : n = 115
  · subst h3
    go_enter Tryz.func72, Tryz.ntmps72
    go_wp2
    go_ret
    exact ⟨rfl, rfl⟩
  · have e1 : ((n : Int) == 109) = false := by simp; omega
    have e2 : ((n : Int) == 101) = false := by simp; omega
    have e3 : ((n : Int) == 115) = false := by simp; omega
    go_enter Tryz.func72, Tryz.ntmps72
    go_wp2
    go_ret
    exact ⟨by rw [e1, e2, e3]; rfl, rfl⟩
def ofL (k : UInt8) (n : Nat) : List UInt8 × Int := if letL k && decide (n < 10000000000) then (nameL k n, 0) else ([], 1)
end Go.Proofs.YtinancnlangkjaaGreatDoor

set_option linter.unusedSimpArgs false
set_option linter.unusedVariables false
namespace Go.Proofs.YtinancnlangkjaaGreatDoor
open Go Go.RowKit Go.Tum Go.ChangeMaps Go.Sort Go.Nam

theorem str_app2 (a b : List UInt8) : str a ++ str b = str (a ++ b) := by
  apply ByteArray.ext
  simp [str, ByteArray.data_append]
set_option maxRecDepth 100000 in
set_option maxHeartbeats 1000000 in
theorem nof_any (k : UInt8) (n : Nat) (hn : n < 18446744073709551616) (w : World) (htab : Pw w) :
    Calls Tryz.prog 37 #[u8V k, .int .u64 (n : Int)] w fun e w' => e = .returned (.tuple #[.string (str (ofL k n).1), .int .i64 (ofL k n).2]) ∧ Ext w w' := by
  obtain ⟨R, hR⟩ : ∃ R, ofL k n = R := ⟨_, rfl⟩
  have HR := hid hR
  rw [hR]
  have HT := hid htab
  obtain ⟨b, hb⟩ : ∃ b, letL k = b := ⟨_, rfl⟩
  have HB := hid hb
  have hl := fun w => letter_any k w
  rw [hb] at hl
  have HL := hid hl
  clear hR htab hl
  cases b
  case false =>
    have HO : Hid (R = ([], 1)) := hid (by rw [← HR.out]; unfold ofL; rw [HB.out]; rfl)
    clear hb
    go_enter Tryz.func37, Tryz.ntmps37
    go_wp2_with fail
    refine (HL.out _).mono ?_
    rintro e w1 ⟨rfl, rfl⟩
    go_wp2
    go_returns
    rw [HO.out]
    exact ⟨rfl, Ext.refl _⟩
  by_cases hn2 : n < 10000000000
  · have hd : decide ((10000000000 : Int) ≤ (n : Int)) = false := by simp; omega
    have HO : Hid (R = (nameL k n, 0)) := hid (by rw [← HR.out]; unfold ofL; rw [HB.out, decide_eq_true hn2]; rfl)
    have hk : k = 109 ∨ k = 101 ∨ k = 115 := by
      unfold letL at hb
      simpa using hb
    have HF := hid (fun w' (h : Pw w') => fmt_any n hn w' h)
    have hn3 := hn2
    clear hb hn2
    have hdl : (dec n).length ≤ 10 := dec_len (k := 9) (by simpa using hn3)
    have HDL := hid hdl
    clear hn3
    rcases hk with rfl | rfl | rfl
    · have z1 : ¬ 9223372036854775807 < (Utf8.encode 109).size + 1 := by rw [show (Utf8.encode 109).size = 1 from by kernel_rfl]; omega
      have z2 : ¬ 9223372036854775807 < (Utf8.encode 109).size + 1 + (dec n).length := by rw [show (Utf8.encode 109).size = 1 from by kernel_rfl]; omega
      go_enter Tryz.func37, Tryz.ntmps37
      go_wp2_with fail
      refine (HL.out _).mono ?_
      rintro e w1 ⟨rfl, rfl⟩
      go_wp2_with fail
      refine (HF.out _ HT.out).mono ?_
      rintro e w2 ⟨rfl, hx⟩
      have HX := hid hx
      clear hx
      go_wp2
      all_goals go_returns
      all_goals rw [HO.out]
      exact ⟨by unfold nameL; rw [show Utf8.encode 109 = str [109] from by kernel_rfl, show (⟨#[46]⟩ : ByteArray) = str [46] from rfl, str_app2, str_app2]; rfl, HX.out⟩
    · have z1 : ¬ 9223372036854775807 < (Utf8.encode 101).size + 1 := by rw [show (Utf8.encode 101).size = 1 from by kernel_rfl]; omega
      have z2 : ¬ 9223372036854775807 < (Utf8.encode 101).size + 1 + (dec n).length := by rw [show (Utf8.encode 101).size = 1 from by kernel_rfl]; omega
      go_enter Tryz.func37, Tryz.ntmps37
      go_wp2_with fail
      refine (HL.out _).mono ?_
      rintro e w1 ⟨rfl, rfl⟩
      go_wp2_with fail
      refine (HF.out _ HT.out).mono ?_
      rintro e w2 ⟨rfl, hx⟩
      have HX := hid hx
      clear hx
      go_wp2
      all_goals go_returns
      all_goals rw [HO.out]
      exact ⟨by unfold nameL; rw [show Utf8.encode 101 = str [101] from by kernel_rfl, show (⟨#[46]⟩ : ByteArray) = str [46] from rfl, str_app2, str_app2]; rfl, HX.out⟩
    · have z1 : ¬ 9223372036854775807 < (Utf8.encode 115).size + 1 := by rw [show (Utf8.encode 115).size = 1 from by kernel_rfl]; omega
      have z2 : ¬ 9223372036854775807 < (Utf8.encode 115).size + 1 + (dec n).length := by rw [show (Utf8.encode 115).size = 1 from by kernel_rfl]; omega
      go_enter Tryz.func37, Tryz.ntmps37
      go_wp2_with fail
      refine (HL.out _).mono ?_
      rintro e w1 ⟨rfl, rfl⟩
      go_wp2_with fail
      refine (HF.out _ HT.out).mono ?_
      rintro e w2 ⟨rfl, hx⟩
      have HX := hid hx
      clear hx
      go_wp2
      all_goals go_returns
      all_goals rw [HO.out]
      exact ⟨by unfold nameL; rw [show Utf8.encode 115 = str [115] from by kernel_rfl, show (⟨#[46]⟩ : ByteArray) = str [46] from rfl, str_app2, str_app2]; rfl, HX.out⟩
  · have hd : decide ((10000000000 : Int) ≤ (n : Int)) = true := by simp; omega
    have HO : Hid (R = ([], 1)) := hid (by rw [← HR.out]; unfold ofL; rw [decide_eq_false hn2, Bool.and_false]; rfl)
    clear hb hn2
    go_enter Tryz.func37, Tryz.ntmps37
    go_wp2_with fail
    refine (HL.out _).mono ?_
    rintro e w1 ⟨rfl, rfl⟩
    go_wp2
    go_returns
    rw [HO.out]
    exact ⟨rfl, Ext.refl _⟩
/-- What a text is the name of. -/
def readV (s : List UInt8) : Value := match readL s with
  | some (k, n) => .tuple #[u8V k, .int .u64 (n : Int), .bool true]
  | none => .tuple #[.int .u8 0, .int .u64 0, .bool false]
theorem readV_none {s : List UInt8} (h : readL s = none) : readV s = .tuple #[.int .u8 0, .int .u64 0, .bool false] := by unfold readV; rw [h]
theorem readV_some {s : List UInt8} {k : UInt8} {n : Nat} (h : readL s = some (k, n)) : readV s = .tuple #[u8V k, .int .u64 (n : Int), .bool true] := by unfold readV; rw [h]
theorem str_extract (l : List UInt8) (a b : Nat) : (str l).extract a b = str ((l.take b).drop a) := by
  apply ByteArray.ext
  apply Array.ext'
  simp [str, ByteArray.data_extract, List.drop_take]
def itPos (w : World) (b n : Nat) : Nat := match w.heap[b]? with
  | some (.stringIter _ pos) => n - pos
  | _ => 0
theorem itPos_eq {w : World} {b n pos : Nat} {s : ByteArray} (h : w.heap[b]? = some (.stringIter s pos)) : itPos w b n = n - pos := by unfold itPos; rw [h]
theorem ix0 (k p : UInt8) (ds : List UInt8) (W : World) : (Instr.index 9 (.string (str (k :: p :: ds))) (.int .i64 0)).run Tryz.prog W = .ok (u8V k) W := by
  rw [run_index_string (h := Tryz.underlying9), dif_pos ⟨by omega, by rw [str_size]; simp; omega⟩]
  rfl
theorem sl12 (k p : UInt8) (ds : List UInt8) (W : World) : (Instr.sliceAt 9 (.string (str (k :: p :: ds))) (some (.int .i64 1)) (some (.int .i64 2)) none).run Tryz.prog W = .ok (.string (str [p])) W := by
  rw [run_sliceAt_string (h := Tryz.underlying9), run_slice_string_if (h := Tryz.underlying9), if_pos (by rw [str_size]; simp; omega), if_pos (by omega), str_extract]
  rfl
theorem sl2 (k p : UInt8) (ds : List UInt8) (W : World) : (Instr.sliceAt 9 (.string (str (k :: p :: ds))) (some (.int .i64 2)) none none).run Tryz.prog W = .ok (.string (str ds)) W := by
  rw [run_sliceAt_string (h := Tryz.underlying9), run_slice_string_l (ht := Tryz.underlying9) (h0 := by omega) (h1 := by rw [str_size]; simp; omega), str_extract, str_size, List.take_of_length_le (Nat.le_refl _)]
  rfl
end Go.Proofs.YtinancnlangkjaaGreatDoor

