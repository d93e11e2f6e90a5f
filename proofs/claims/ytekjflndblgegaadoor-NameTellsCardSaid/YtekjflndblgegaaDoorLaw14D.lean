/- NameUnlike: awake, Large, the walk. -/
import Derived.Test.YtekjflndblgegaaDoorNamD
import Derived.Test.YtekjflndblgegaaDoorSame64
import Derived.Test.YtekjflndblgegaaDoorOpenV
set_option linter.unusedSimpArgs false
set_option linter.unusedVariables false
namespace Go.Proofs.YtekjflndblgegaaDoor
open Go Go.RowKit Go.Tum Go.ChangeMaps Go.Sort Go.Nam

theorem Pw.ext {w w' : World} (h : Pw w) (k : Ext w w') : Pw w' := by
  have h2 : (match w.heap[0]? with | some (Obj.cells cs _ _) => some cs | _ => none) = some (List.map (fun z => Value.int IntKind.u64 z) Lib.pow10Tab).toArray := h
  show (match w'.heap[0]? with | some (Obj.cells cs _ _) => some cs | _ => none) = some (List.map (fun z => Value.int IntKind.u64 z) Lib.pow10Tab).toArray
  cases hw : w.heap[0]? with
  | none => rw [hw] at h2; cases h2
  | some o => rw [k.obj hw]; rw [hw] at h2; exact h2
/-! ### Large -/
def LargeN (l : List Nm) (w : World) (e : Ending) (w' : World) : Prop := (∃ r, e = .returned (.bool r) ∧ (r = false → l.length ≤ 200 ∧ ∀ s ∈ l, s.length ≤ 300)) ∧ Ext w w'
theorem LargeN.yes {l : List Nm} {w w' : World} (h : Ext w w') : LargeN l w (.returned (.bool true)) w' := ⟨⟨true, rfl, fun h => by cases h⟩, h⟩
set_option maxHeartbeats 1000000 in
theorem nlarge_any (v : Value) (l : List Nm) (w : World) (h : Vec vN w v l) : Calls Tryd.prog 7 #[v] w fun e w' => LargeN l w e w' := by
  obtain ⟨ao, cap, rfl, hle, hm, hnn, hcell⟩ := h.open
  have HC := hid hcell
  have HNN := hid hnn
  clear h hcell hnn
  by_cases h1 : 200 < l.length
  · have hd : decide ((200 : Int) < l.length) = true := by simp; omega
    clear h1
    go_enter Tryd.func7, Tryd.ntmps7
    go_wp2
    go_returns
    exact LargeN.yes (Ext.refl _)
  have hd : decide ((200 : Int) < l.length) = false := by simp; omega
  go_enter Tryd.func7, Tryd.ntmps7
  go_wp2
  clear hd
  go_loopw [3] (fun i wr => ∃ k : Nat, k ≤ l.length ∧ i = .int .i64 k ∧ Hid (∀ j (h : j < l.length), j < k → l[j].length ≤ 300) ∧ wr = w) (fun i _ => l.length - (intOf i).toNat)
  case atStart => exact ⟨0, by omega, rfl, hid (fun j h h2 => absurd h2 (by omega)), rfl⟩
  case round =>
    obtain ⟨k, hk, rfl, HS, rfl⟩ := hrel
    by_cases hlt : k < l.length
    · obtain ⟨a0, rfl⟩ := HNN.out (by omega)
      have c0 := HC.out a0 rfl k hlt
      obtain ⟨s, hs⟩ : ∃ s, l[k] = s := ⟨_, rfl⟩
      have HSQ := hid hs
      rw [hs] at c0
      clear hs
      have hi1 : decide ((k : Int) < l.length) = true := by simp; omega
      have hi2 : (k : Int) < l.length := by omega
      by_cases hb : 300 < s.length
      · have hd : decide ((300 : Int) < ((str s).size : Int)) = true := by rw [str_size]; simp; omega
        go_wp2
        go_returns
        exact LargeN.yes (Ext.refl _)
      · have hd : decide ((300 : Int) < ((str s).size : Int)) = false := by rw [str_size]; simp; omega
        have HB := hid hb
        clear hb
        go_wp2
        go_roundw
        case rel =>
          refine ⟨k + 1, by omega, by go_num, hid (fun j h h2 => ?_), by first | rfl | trivial⟩
          rcases Nat.lt_or_eq_of_le (Nat.le_of_lt_succ h2) with h3 | h3
          · exact HS.out j h h3
          · subst h3; rw [HSQ.out]; have := HB.out; omega
        case measure => simp [intOf]; omega
    · have hkf : decide ((k : Int) < l.length) = false := by simp; omega
      go_wp2
      go_returns
      refine ⟨⟨false, rfl, fun _ => ⟨by omega, fun q hq => ?_⟩⟩, Ext.refl _⟩
      obtain ⟨j, hj, rfl⟩ := List.mem_iff_getElem.1 hq
      exact HS.out j hj (by omega)
/-! ### awake -/
theorem dec12 : dec 12 = [49, 50] := by
  unfold dec
  rw [Lib.decDigits_two (by omega) (by omega)]
  decide
theorem qo1 : ofL 109 12 = ([109, 46, 49, 50], 0) := by
  unfold ofL
  rw [if_pos (by decide)]
  unfold nameL
  rw [dec12]
theorem qo2 : ofL 120 1 = ([], 1) := by
  unfold ofL
  rw [if_neg (by decide)]
theorem qs21 : ([2, 1] : List UInt64).mergeSort leU = [1, 2] := by simp [List.mergeSort, List.MergeSort.Internal.splitInTwo, List.merge, leU]
theorem qr1 : readV [101, 46, 48] = .tuple #[.int .u8 101, .int .u64 0, .bool true] := by kernel_rfl
theorem qr2 : readV [101, 46, 48, 48] = .tuple #[.int .u8 0, .int .u64 0, .bool false] := by kernel_rfl
theorem qn1 : numsL 109 [[109, 46, 50], [101, 46, 51], [109, 46, 49]] = [2, 1] := by kernel_rfl
set_option maxRecDepth 100000 in
set_option maxHeartbeats 2000000 in
theorem nawake_any (w : World) (ht : Pw w) : Calls Tryd.prog 6 #[] w fun e w' => e = .returned (.bool true) ∧ Ext w w' := by
  have HT := hid ht
  clear ht
  go_enter Tryd.func6, Tryd.ntmps6
  go_wp2_with fail
  have hc := of_any 109 12 (by omega) w HT.out
  rw [qo1] at hc
  refine hc.mono ?_
  clear hc
  rintro e w1 ⟨rfl, hx⟩
  have HE1 := hid hx
  clear hx
  go_wp2_with fail
  have hc := read_any [101, 46, 48] w1 (by simp)
  rw [qr1] at hc
  refine hc.mono ?_
  clear hc
  rintro e w2 ⟨rfl, hx⟩
  have HE2 := hid (HE1.out.trans hx)
  clear hx
  go_wp2_with fail
  have hc := read_any [101, 46, 48, 48] w2 (by simp)
  rw [qr2] at hc
  refine hc.mono ?_
  clear hc
  rintro e w3 ⟨rfl, hx⟩
  have HE3 := hid (HE2.out.trans hx)
  clear hx
  go_wp2_with fail
  have hc := of_any 120 1 (by omega) w3 (HT.out.ext HE3.out)
  rw [qo2] at hc
  refine hc.mono ?_
  clear hc
  rintro e w4 ⟨rfl, hx⟩
  have HE4 := hid (HE3.out.trans hx)
  clear hx
  go_wp2_with fail
  have HV := hid (owv_lit (f := vN) w4 w4.heap.size 9 [[109, 46, 50], [101, 46, 51], [109, 46, 49]] #[vN [109, 46, 50], vN [101, 46, 51], vN [109, 46, 49]] rfl 3 rfl (Nat.le_refl _) (by simp [maxLen])).vec
  have hc := only_any _ [[109, 46, 50], [101, 46, 51], [109, 46, 49]] 109 _ HV.out (by intro s hs; simp at hs; rcases hs with rfl | rfl | rfl <;> simp) (by simp)
  rw [qn1] at hc
  rw [qs21] at hc
  refine hc.mono ?_
  clear hc
  rintro e w5 ⟨⟨u, rfl, ho⟩, hx⟩
  obtain ⟨uo, uc, rfl⟩ := ho.shape
  have HO := hid ho
  have HE5 := hid ((HE4.out.trans (Ext.alloc w4 (.cells #[vN [109, 46, 50], vN [101, 46, 51], vN [109, 46, 49]] 9 (0, 0)))).trans hx)
  clear ho hx
  go_wp2_with fail
  have HV2 := hid (owv_lit (f := uv) w5 w5.heap.size 22 [1, 2] #[uv 1, uv 2] rfl 2 rfl (Nat.le_refl _) (by simp [maxLen])).vec
  have hc := rsame64_any _ _ [1, 2] [1, 2] _ (HO.out.vec.ext (Ext.alloc w5 (.cells #[uv 1, uv 2] 22 (0, 0)))) HV2.out
  rw [show (([1, 2] : List UInt64) == [1, 2]) = true from by decide] at hc
  refine hc.mono ?_
  clear hc
  rintro e w6 ⟨rfl, hx⟩
  have HE6 := hid ((HE5.out.trans (Ext.alloc w5 (.cells #[uv 1, uv 2] 22 (0, 0)))).trans hx)
  clear hx
  go_wp2
  go_returns
  exact ⟨rfl, HE6.out⟩
/-! ### NameUnlike -/
theorem lk2d {w : World} {b : Nat} {v0 v1 : Value} {ty : TypeId} (h : w.heap[b]? = some (.cells #[v0, v1] ty (0, 0))) :
    w.cell? ⟨b, 0, none⟩ = some v0 ∧ w.cell? ⟨b, 1, none⟩ = some v1 := by
  constructor <;> simp [World.cell?, h]
theorem ofL_bad {k : UInt8} {n : Nat} (h : ¬ (letL k = true ∧ n < 10000000000)) : ofL k n = ([], 1) := by
  unfold ofL
  rw [if_neg (by simpa using h)]
theorem ofL_good {k : UInt8} {n : Nat} (h : letL k = true ∧ n < 10000000000) : ofL k n = (nameL k n, 0) := by
  unfold ofL
  rw [if_pos (by simpa using h)]
theorem nameL_eq {k0 k1 : UInt8} {n0 n1 : UInt64} (h0 : letL k0 = true ∧ n0.toNat < 10000000000) (h1 : letL k1 = true ∧ n1.toNat < 10000000000) : (nameL k0 n0.toNat == nameL k1 n1.toNat) = (decide (k0 = k1) && decide (n0 = n1)) := by
  rw [Bool.eq_iff_iff]
  simp only [beq_iff_eq, Bool.and_eq_true, decide_eq_true_eq]
  constructor
  · intro h
    have e0 := read_name h0.1 h0.2
    rw [h, read_name h1.1 h1.2] at e0
    have e2 := Prod.mk.inj (Option.some.inj e0)
    exact ⟨e2.1.symm, UInt64.toNat_inj.1 e2.2.symm⟩
  · rintro ⟨rfl, rfl⟩
    rfl
theorem kbeq (k0 k1 : UInt8) : ((k0.toNat : Int) == (k1.toNat : Int)) = decide (k0 = k1) := by
  rw [Bool.eq_iff_iff]
  simp only [beq_iff_eq, decide_eq_true_eq]
  constructor
  · intro h; exact UInt8.toNat_inj.1 (by omega)
  · rintro rfl; rfl
theorem nbeq (n0 n1 : UInt64) : ((n0.toNat : Int) == (n1.toNat : Int)) = decide (n0 = n1) := by
  rw [Bool.eq_iff_iff]
  simp only [beq_iff_eq, decide_eq_true_eq]
  constructor
  · intro h; exact UInt64.toNat_inj.1 (by omega)
  · rintro rfl; rfl
theorem leU_sorted (l : List UInt64) (j : Nat) (h : j + 1 < (l.mergeSort leU).length) : (l.mergeSort leU)[j] ≤ (l.mergeSort leU)[j + 1] := by
  have hp := List.pairwise_mergeSort (le := leU) (by intro a b c; simp only [leU, decide_eq_true_eq, UInt64.le_iff_toNat_le]; omega) (by intro a b; simp only [leU, Bool.or_eq_true, decide_eq_true_eq, UInt64.le_iff_toNat_le]; omega) l
  have := List.pairwise_iff_getElem.1 hp j (j + 1) (by omega) h (by omega)
  simpa [leU] using this
set_option maxRecDepth 100000 in
set_option maxHeartbeats 4000000 in
theorem nameUnlike_law (k0 k1 : UInt8) (n0 n1 : UInt64) (v : Value) (l : List Nm) (w : World) (hv : Vec vN w v l) (ht : Pw w) :
    Calls Tryd.prog 5 #[.agg #[u8V k0, u8V k1], .agg #[uv n0, uv n1], v] w fun e w' => e = .returned (.bool true) ∧ Ext w w' := by
  have HB0 : Hid (((w.alloc (.cells #[u8V k0, u8V k1] 40)).alloc (.cells #[uv n0, uv n1] 41)).heap[w.heap.size]? = some (.cells #[u8V k0, u8V k1] 40 (0, 0))) := hid (heap_alloc2_old _ _ _)
  have HB1 : Hid (((w.alloc (.cells #[u8V k0, u8V k1] 40)).alloc (.cells #[uv n0, uv n1] 41)).heap[w.heap.size + 1]? = some (.cells #[uv n0, uv n1] 41 (0, 0))) := hid (heap_alloc2_new _ _ _)
  have HE0 : Hid (Ext w ((w.alloc (.cells #[u8V k0, u8V k1] 40)).alloc (.cells #[uv n0, uv n1] 41))) := hid ((Ext.alloc _ _).trans (Ext.alloc _ _))
  have HT := hid ht
  have HV := hid hv
  obtain ⟨ao, cap, rfl, hle, hm, hnn, hcell⟩ := hv.open
  have HC := hid hcell
  have HNN := hid hnn
  clear ht hv hnn hcell
  go_enter Tryd.func5, Tryd.ntmps5
  go_wp2_with fail
  generalize (w.alloc (.cells #[u8V k0, u8V k1] 40)).alloc (.cells #[uv n0, uv n1] 41) = W1 at *
  refine (nawake_any W1 (HT.out.ext HE0.out)).mono ?_
  rintro e w1 ⟨rfl, hx⟩
  have HX1 := hid hx
  clear hx
  go_wp2_with fail
  refine (nlarge_any _ l _ (HV.out.ext (HE0.out.trans HX1.out))).mono ?_
  rintro e w2 ⟨⟨r, rfl, hr⟩, hx⟩
  have HX2 := hid (HX1.out.trans hx)
  clear hx HX1
  cases r
  case true =>
    clear hr
    go_wp2
    go_returns
    exact ⟨rfl, HE0.out.trans HX2.out⟩
  have HLL := hid (hr rfl)
  clear hr
  obtain ⟨a0, a1⟩ := lk2d (HX2.out.obj HB0.out)
  obtain ⟨b0, b1⟩ := lk2d (HX2.out.obj HB1.out)
  go_wp2_with fail
  clear a0 a1 b0 b1
  have hc := of_any k0 n0.toNat n0.toNat_lt w2 (HT.out.ext (HE0.out.trans HX2.out))
  obtain ⟨R0, hR0⟩ : ∃ R, ofL k0 n0.toNat = R := ⟨_, rfl⟩
  rw [hR0] at hc
  obtain ⟨A, e0⟩ := R0
  have HR0 := hid hR0
  refine hc.mono ?_
  clear hc hR0
  rintro e w3 ⟨rfl, hx⟩
  have HX3 := hid (HX2.out.trans hx)
  clear hx HX2
  obtain ⟨a0, a1⟩ := lk2d (HX3.out.obj HB0.out)
  obtain ⟨b0, b1⟩ := lk2d (HX3.out.obj HB1.out)
  go_wp2_with fail
  clear a0 a1 b0 b1
  have hc := of_any k1 n1.toNat n1.toNat_lt w3 (HT.out.ext (HE0.out.trans HX3.out))
  obtain ⟨R1, hR1⟩ : ∃ R, ofL k1 n1.toNat = R := ⟨_, rfl⟩
  rw [hR1] at hc
  obtain ⟨C, e1⟩ := R1
  have HR1 := hid hR1
  refine hc.mono ?_
  clear hc hR1
  rintro e w4 ⟨rfl, hx⟩
  have HX4 := hid (HX3.out.trans hx)
  clear hx HX3
  obtain ⟨a0, a1⟩ := lk2d (HX4.out.obj HB0.out)
  obtain ⟨b0, b1⟩ := lk2d (HX4.out.obj HB1.out)
  go_upto_region 7 with fail
  go_cut [63] from 20 (fun x wx => x = .bool false ∧ wx = w4)
  case first =>
    by_cases h0 : letL k0 = true ∧ n0.toNat < 10000000000
    · have HA : Hid (nameL k0 n0.toNat = A ∧ 0 = e0) := hid (by have := HR0.out; rw [ofL_good h0] at this; exact Prod.mk.inj this)
      obtain ⟨-, rfl⟩ := HA.out
      by_cases h1 : letL k1 = true ∧ n1.toNat < 10000000000
      · have HCC : Hid (nameL k1 n1.toNat = C ∧ 0 = e1) := hid (by have := HR1.out; rw [ofL_good h1] at this; exact Prod.mk.inj this)
        obtain ⟨-, rfl⟩ := HCC.out
        have hne := nameL_eq h0 h1
        rw [HA.out.1, HCC.out.1] at hne
        have hkb := kbeq k0 k1
        have hnb := nbeq n0 n1
        clear h0 h1
        generalize decide (k0 = k1) = c0 at *
        generalize decide (n0 = n1) = c1 at *
        cases c0
        case false =>
          simp only [Bool.false_and] at hne
          go_wp2
          go_meet
          case rel => exact ⟨by first | rfl | simp, rfl⟩
        case true =>
          cases c1
          case false =>
            simp only [Bool.and_false] at hne
            go_wp2
            go_meet
            case rel => exact ⟨by first | rfl | simp, rfl⟩
          case true =>
            simp only [Bool.and_true] at hne
            go_wp2
            go_meet
            case rel => exact ⟨by first | rfl | simp, rfl⟩
      · have HCC : Hid ([] = C ∧ 1 = e1) := hid (by have := HR1.out; rw [ofL_bad h1] at this; exact Prod.mk.inj this)
        obtain ⟨rfl, rfl⟩ := HCC.out
        clear h0 h1
        go_wp2
        go_meet
        case rel => exact ⟨rfl, rfl⟩
    · have HA : Hid ([] = A ∧ 1 = e0) := hid (by have := HR0.out; rw [ofL_bad h0] at this; exact Prod.mk.inj this)
      obtain ⟨rfl, rfl⟩ := HA.out
      clear h0
      go_wp2
      go_meet
      case rel => exact ⟨rfl, rfl⟩
  case rest =>
    obtain ⟨rfl, rfl⟩ := hcut
    go_wp2_with fail
    clear a0 a1 b0 b1
    refine (only_any _ l k0 wc (HV.out.ext (HE0.out.trans HX4.out)) (fun s hs => by have := HLL.out.2 s hs; omega) (by have := HLL.out.1; omega)).mono ?_
    rintro e w5 ⟨⟨u, rfl, ho⟩, hx⟩
    obtain ⟨uo, uc, rfl⟩ := ho.shape
    obtain ⟨L, hL⟩ : ∃ L, (numsL k0 l).mergeSort leU = L := ⟨_, rfl⟩
    have HLE : Hid (L.length = (numsL k0 l).length) := hid (by rw [← hL, List.length_mergeSort])
    have HLS : Hid (∀ (j : Nat) (h : j + 1 < L.length), L[j] ≤ L[j + 1]) := hid (by subst hL; exact leU_sorted _)
    rw [hL] at ho ⊢
    clear hL
    have HO := hid ho
    have HX5 := hid (HX4.out.trans hx)
    clear hx ho HX4
    go_wp2_with fail
    go_loopw [12, 70] (fun mv iv wr => ∃ j m : Nat, j ≤ l.length ∧ m ≤ j ∧ iv = .int .i64 (j : Int) ∧ mv = .int .i64 (m : Int) ∧ Hid (m = (numsL k0 (l.take j)).length) ∧ Hid (Ext w5 wr)) (fun _ iv _ => l.length - (intOf iv).toNat)
    case atStart => exact ⟨0, 0, by omega, by omega, rfl, rfl, hid rfl, hid (Ext.refl _)⟩
    case round =>
      obtain ⟨j, m, hj, hmj, rfl, rfl, HM, HXo⟩ := hrel
      by_cases hlt : j < l.length
      · have hji : decide ((j : Int) < (l.length : Int)) = true := by simp; omega
        obtain ⟨a, rfl⟩ := HNN.out (by omega)
        have c0 := (HE0.out.trans (HX5.out.trans HXo.out)).cell (HC.out a rfl j hlt)
        have hsl := HLL.out.2 l[j] (List.getElem_mem hlt)
        have hsu := numsL_succ k0 hlt
        obtain ⟨s, hs⟩ : ∃ s, l[j] = s := ⟨_, rfl⟩
        rw [hs] at c0 hsl hsu
        have HSL := hid hsl
        have HSU := hid hsu
        have HLT := hid hlt
        have HL2 := hid HLL.out.1
        clear hs hsl hsu
        go_wp2_with fail
        cases hr : readL s with
        | none =>
          have HV2 := hid (readV_none hr)
          have HTK : Hid (numsL k0 (l.take (j + 1)) = numsL k0 (l.take j)) := hid (by rw [HSU.out]; unfold ofKind; rw [hr]; simp)
          clear hr
          have hc := read_any s wr (by have := HSL.out; omega)
          rw [HV2.out] at hc
          refine hc.mono ?_
          clear hc
          rintro e w6 ⟨rfl, hx⟩
          have HX6 := hid (HXo.out.trans hx)
          clear hx
          go_wp2
          go_roundw
          case rel => exact ⟨j + 1, m, by have := HLT.out; omega, by omega, by go_num, rfl, hid (by rw [HTK.out]; exact HM.out), HX6⟩
          case measure => have := HLT.out; simp [intOf]; omega
        | some p =>
          obtain ⟨k, n⟩ := p
          have HV2 := hid (readV_some hr)
          by_cases hk : k = k0
          · have hkb : ((k.toNat : Int) == (k0.toNat : Int)) = true := by simp [hk]
            have HTK : Hid ((numsL k0 (l.take (j + 1))).length = (numsL k0 (l.take j)).length + 1) := hid (by rw [HSU.out]; unfold ofKind; rw [hr]; simp [hk])
            clear hr hk
            have hc := read_any s wr (by have := HSL.out; omega)
            rw [HV2.out] at hc
            refine hc.mono ?_
            clear hc
            rintro e w6 ⟨rfl, hx⟩
            have HX6 := hid (HXo.out.trans hx)
            clear hx
            obtain ⟨a0, a1⟩ := lk2d ((HX5.out.trans HX6.out).obj HB0.out)
            have hwm : IntKind.i64.wrap ((m : Int) + 1) = ((m + 1 : Nat) : Int) := i64v _ (by omega) (by have := HL2.out; omega)
            go_wp2
            go_roundw
            case rel => exact ⟨j + 1, m + 1, by have := HLT.out; omega, by omega, by go_num, by first | rfl | go_num, hid (by rw [HTK.out, ← HM.out]), HX6⟩
            case measure => have := HLT.out; simp [intOf]; omega
          · have hkb : ((k.toNat : Int) == (k0.toNat : Int)) = false := by
              rw [beq_eq_false_iff_ne]
              intro e
              exact hk (UInt8.toNat_inj.1 (by omega))
            have HTK : Hid (numsL k0 (l.take (j + 1)) = numsL k0 (l.take j)) := hid (by rw [HSU.out]; unfold ofKind; rw [hr]; simp [hk])
            clear hr hk
            have hc := read_any s wr (by have := HSL.out; omega)
            rw [HV2.out] at hc
            refine hc.mono ?_
            clear hc
            rintro e w6 ⟨rfl, hx⟩
            have HX6 := hid (HXo.out.trans hx)
            clear hx
            obtain ⟨a0, a1⟩ := lk2d ((HX5.out.trans HX6.out).obj HB0.out)
            go_wp2
            go_roundw
            case rel => exact ⟨j + 1, m, by have := HLT.out; omega, by omega, by go_num, rfl, hid (by rw [HTK.out]; exact HM.out), HX6⟩
            case measure => have := HLT.out; simp [intOf]; omega
      · have hjf : decide ((j : Int) < (l.length : Int)) = false := by simp; omega
        have HML : Hid (m = L.length) := hid (by rw [HLE.out, HM.out, List.take_of_length_le (by omega)])
        obtain ⟨hn, hcp, hcm, hnn, hcell⟩ := (HO.out.ext HXo.out).vec.opens
        have HCO := hid hcell
        have HNO := hid hnn
        have HXF : Hid (Ext w wr) := hid (HE0.out.trans (HX5.out.trans HXo.out))
        have hLb : L.length ≤ 200 := by have := HML.out; have := HLL.out.1; omega
        clear hcell hnn hn HO
        go_wp2_with fail
        go_loopw [92] (fun iv w9 => ∃ j : Nat, j ≤ L.length ∧ iv = .int .i64 (j : Int) ∧ w9 = wr) (fun iv _ => L.length - (intOf iv).toNat)
        case atStart => exact ⟨0, by omega, rfl, rfl⟩
        case round =>
          clear hjf
          obtain ⟨i, hi, rfl, rfl⟩ := hrel
          by_cases hil : i < L.length
          · obtain ⟨a, rfl⟩ := HNO.out (by omega)
            have hii : decide ((i : Int) < (L.length : Int)) = true := by simp; omega
            have c0 := HCO.out a rfl i hil
            obtain ⟨x, hx⟩ : ∃ x, L[i] = x := ⟨_, rfl⟩
            have HIX := hid hx
            rw [hx] at c0
            clear hx
            rcases Nat.eq_zero_or_pos i with rfl | hi0
            · have e00 : a.add 0 = a := by first | (unfold Addr.add; split <;> simp_all; done) | (cases a; simp [Addr.add]; done) | (cases a; rename_i p; cases p <;> simp [Addr.add])
              have c00 : wr.cell? a = some (uv x) := by rw [e00] at c0; exact c0
              clear e00
              clear c0
              go_wp2
              go_roundw
              case rel => exact ⟨1, by omega, by go_num, by first | rfl | trivial⟩
              case measure => simp [intOf]; omega
            · obtain ⟨q, hq⟩ : ∃ q, q + 1 = i := ⟨i - 1, by omega⟩
              have hql : q < L.length := by omega
              have c1 := HCO.out a rfl q hql
              obtain ⟨y, hy⟩ : ∃ y, L[q] = y := ⟨_, rfl⟩
              have hle9 := HLS.out q (by omega)
              simp only [hq, HIX.out, hy] at hle9
              rw [hy] at c1
              clear hy
              rw [UInt64.le_iff_toNat_le] at hle9
              have hd1 : decide ((x.toNat : Int) < (y.toNat : Int)) = false := by simp; omega
              have hd2 : (x.toNat < y.toNat) = False := by simp; omega
              have hd3 : (x < y) = False := by simp [UInt64.lt_iff_toNat_lt]; omega
              have hwq : IntKind.i64.wrap ((i : Int) - 1) = (q : Int) := i64v _ (by omega) (by omega)
              have hq2 : (q : Int) < (L.length : Int) := by omega
              have hq3 : decide ((0 : Int) < (i : Int)) = true := by simp; omega
              have HQ := hid hq
              clear hq
              clear hle9
              go_wp2
              go_roundw
              case rel => exact ⟨i + 1, by omega, by go_num, by first | rfl | trivial⟩
              case measure => simp [intOf]; omega
          · have hif : decide ((i : Int) < (L.length : Int)) = false := by simp; omega
            have hme : ((m : Int) == (L.length : Int)) = true := by have := HML.out; simp; omega
            go_wp2
            go_returns
            exact ⟨by first | rfl | simp [HML.out], HXF.out⟩
end Go.Proofs.YtekjflndblgegaaDoor
