/- Names of files: Only. -/
import Derived.Test.YtekjflndblgegaaDoorNamB
import Derived.Test.YtekjflndblgegaaDoorSrtS
import Derived.Test.YtekjflndblgegaaDoorDskF
set_option linter.unusedSimpArgs false
set_option linter.unusedVariables false
namespace Go.Proofs.YtekjflndblgegaaDoor
open Go Go.RowKit Go.Tum Go.ChangeMaps Go.Sort Go.Nam

theorem infoU64 : (Tryd.prog.info? 22).map (fun i => (i.zero, i.size, i.bytes)) = some (some (.int .u64 0), 1, 8) := by kernel_rfl
theorem vN_oneN (x : Nm) : (vN x).oneCell' = true := rfl
/-- The number that a name tells, if it is kind's. -/
def ofKind (kind : UInt8) (s : List UInt8) : Option UInt64 := match readL s with
  | some (k, n) => if k = kind then some (UInt64.ofNat n) else none
  | none => none
def numsL (kind : UInt8) (l : List (List UInt8)) : List UInt64 := l.filterMap (ofKind kind)
theorem read_lt {s : List UInt8} {k : UInt8} {n : Nat} (h : readL s = some (k, n)) : (UInt64.ofNat n).toNat = n := by
  have := (name_read h).2.2
  rw [UInt64.toNat_ofNat']
  omega
theorem held14 {p : Prop} (h : p ∨ False) : p := h.elim id False.elim
theorem numsL_succ (kind : UInt8) {l : List (List UInt8)} {j : Nat} (h : j < l.length) : numsL kind (l.take (j + 1)) = numsL kind (l.take j) ++ (match ofKind kind l[j] with | some x => [x] | none => []) := by
  unfold numsL
  rw [List.take_succ_eq_append_getElem h, List.filterMap_append, List.filterMap_cons, List.filterMap_nil]
  cases ofKind kind l[j] <;> rfl
theorem numsL_len (kind : UInt8) (l : List (List UInt8)) (j : Nat) : (numsL kind (l.take j)).length ≤ j := by
  unfold numsL
  have h1 := List.length_filterMap_le (ofKind kind) (l.take j)
  simp only [List.length_take] at h1
  omega
set_option maxHeartbeats 1000000 in
theorem insNil_any (w : World) : Calls Tryd.prog 34 #[.slice none 0 0, .int .i64 0, .int .i64 0] w fun e w' => (∃ u, e = .returned u) ∧ w' = w := by
  go_enter Tryd.func34, Tryd.ntmps34
  go_wp2
  go_loopw [6] (fun iv wr => iv = .int .i64 1 ∧ wr = w) (fun _ _ => 0)
  case atStart => exact ⟨by first | rfl | go_num, rfl⟩
  case round =>
    obtain ⟨rfl, rfl⟩ := hrel
    go_wp2
    go_returns
    exact ⟨⟨_, rfl⟩, rfl⟩
set_option maxHeartbeats 1000000 in
theorem pdqNil_any (lim : Int) (w : World) : Calls Tryd.prog 27 #[.slice none 0 0, .int .i64 0, .int .i64 0, .int .i64 lim] w fun e w' => (∃ u, e = .returned u) ∧ w' = w := by
  go_enter Tryd.func27, Tryd.ntmps27
  go_wp2
  go_loopw [1, 2] (fun a b wr => a = .int .i64 0 ∧ b = .int .i64 0 ∧ wr = w) (fun _ _ _ => 0)
  case atStart => exact ⟨rfl, rfl, rfl⟩
  case round =>
    obtain ⟨rfl, rfl, rfl⟩ := hrel
    go_wp2_with fail
    refine (insNil_any _).mono ?_
    rintro e w1 ⟨⟨u, rfl⟩, rfl⟩
    go_wp2
    go_returns
    exact ⟨⟨_, rfl⟩, rfl⟩
set_option maxHeartbeats 1000000 in
theorem sortNil_any (w : World) : Calls Tryd.prog 20 #[.slice none 0 0] w fun e w' => (∃ u, e = .returned u) ∧ w' = w := by
  have hbl : ∀ w2, Calls Tryd.prog 28 #[.int .u64 0] w2 fun e w3 => (∃ k : Int, e = .returned (.int .i64 k)) ∧ w3 = w2 := fun w2 => (Tryd.bits_Len 0 w2 (by omega) (by omega)).mono fun _ _ hh => ⟨⟨_, hh.1⟩, hh.2⟩
  have HBL := hid hbl
  clear hbl
  go_enter Tryd.func20, Tryd.ntmps20
  go_wp2_with fail
  refine (HBL.out w).mono ?_
  rintro e w1 ⟨⟨k, rfl⟩, rfl⟩
  go_wp2_with fail
  refine (pdqNil_any k _).mono ?_
  rintro e w2 ⟨⟨u, rfl⟩, rfl⟩
  go_wp2
  go_returns
  exact ⟨⟨_, rfl⟩, rfl⟩
def leU (x y : UInt64) : Bool := decide (x ≤ y)
set_option maxRecDepth 100000 in
set_option maxHeartbeats 1000000 in
theorem only_any (v : Value) (l : List (List UInt8)) (kind : UInt8) (w : World) (hv : Vec vN w v l) (hl : ∀ s ∈ l, s.length ≤ 1048576) (hn : l.length ≤ 1000) :
    Calls Tryd.prog 13 #[v, u8V kind] w fun e w' => (∃ u, e = .returned u ∧ OwV uv w' w.heap.size 22 u ((numsL kind l).mergeSort leU)) ∧ Ext w w' := by
  obtain ⟨ao, cap, rfl, hle, hm, hnn, hcell⟩ := hv.open
  have HC := hid hcell
  have HNN := hid hnn
  have HL := hid hl
  have HN := hid hn
  clear hv hl hcell hnn
  go_enter Tryd.func13, Tryd.ntmps13
  go_wp2
  go_loopw [5, 13] (fun ov iv wr => ∃ (j m : Nat) (oo : Option Addr) (oc : Nat), j ≤ l.length ∧ iv = .int .i64 (j : Int) ∧ ov = .slice oo m oc ∧ Hid (m = 0 → oo = none ∧ oc = 0) ∧ Hid (m = (numsL kind (l.take j)).length) ∧ Hid (OwV uv wr w.heap.size 22 (.slice oo m oc) (numsL kind (l.take j))) ∧ Hid (Ext w wr)) (fun _ iv _ => l.length - (intOf iv).toNat)
  case atStart => exact ⟨0, 0, none, 0, by omega, rfl, rfl, hid (fun _ => ⟨rfl, rfl⟩), hid rfl, hid (OwV.nil _ _ _), hid (Ext.refl _)⟩
  case round =>
    obtain ⟨j, m, oo, oc, hj, rfl, rfl, HNIL, HM, HO, HE⟩ := hrel
    by_cases hlt : j < l.length
    · have hji : decide ((j : Int) < (l.length : Int)) = true := by simp; omega
      obtain ⟨a, rfl⟩ := HNN.out (by omega)
      have c0 := HE.out.cell (HC.out a rfl j hlt)
      have hsl := HL.out l[j] (List.getElem_mem hlt)
      have hsu := numsL_succ kind hlt
      obtain ⟨s, hs⟩ : ∃ s, l[j] = s := ⟨_, rfl⟩
      rw [hs] at c0 hsl hsu
      have HSL := hid hsl
      have HSU := hid hsu
      have HLT := hid hlt
      clear hs hsl hsu
      go_wp2_with fail
      have hml : m ≤ 1000 := by have := numsL_len kind l j; have := HM.out; have := HN.out; have := HLT.out; omega
      cases hr : readL s with
      | none =>
        have HV := hid (readV_none hr)
        have HTK : Hid (numsL kind (l.take (j + 1)) = numsL kind (l.take j)) := hid (by rw [HSU.out]; unfold ofKind; rw [hr]; simp)
        clear hr
        have hc := read_any s wr HSL.out
        rw [HV.out] at hc
        refine hc.mono ?_
        clear hc
        rintro e w2 ⟨rfl, hx⟩
        have HE2 := hid (HE.out.trans hx)
        have HO2 := hid (HO.out.ext hx)
        clear hx
        go_wp2
        go_roundw
        case rel => exact ⟨j + 1, m, oo, oc, by have := HLT.out; omega, by go_num, rfl, HNIL, hid (by rw [HTK.out]; exact HM.out), hid (by rw [HTK.out]; exact HO2.out), HE2⟩
        case measure => have := HLT.out; simp [intOf]; omega
      | some p =>
        obtain ⟨k, n⟩ := p
        have HV := hid (readV_some hr)
        have HLT64 := hid (read_lt hr)
        by_cases hk : k = kind
        · have hkb : ((k.toNat : Int) == (kind.toNat : Int)) = true := by simp [hk]
          have HTK : Hid (numsL kind (l.take (j + 1)) = numsL kind (l.take j) ++ [UInt64.ofNat n]) := hid (by rw [HSU.out]; unfold ofKind; rw [hr]; simp [hk])
          clear hr hk
          have hc := read_any s wr HSL.out
          rw [HV.out] at hc
          refine hc.mono ?_
          clear hc
          rintro e w2 ⟨rfl, hx⟩
          have HE2 := hid (HE.out.trans hx)
          have HO2 := hid (HO.out.ext hx)
          clear hx
          go_wp2_with (at_builtin; refine held14 ?_)
          refine Or.inl ?_
          refine wpList_append_vec uv_one rfl (.tmp 29) (.tmp 31) 32 rfl w.heap.size 22 Tryd.underlying32 infoU64 rfl rfl (HO2.out.ext (Ext.alloc _ _)) rfl (Vec.one _ _ _ (UInt64.ofNat n) (by show _ = Value.int .u64 _; rw [HLT64.out])) (m + 1) (by have := HM.out; simp; omega) (by omega) (by omega) (Nat.le_trans HE2.out.size (by simp)) ?_
          intro ao3 cap3 w3 hO3 hg3 hb3
          have HO3 := hid hO3
          have HE3 : Hid (Ext w w3) := hid (Below.trans (HE2.out.trans (Ext.alloc _ _)) hb3)
          clear hO3 hg3 hb3
          go_wp2
          go_roundw
          case rel => exact ⟨j + 1, m + 1, ao3, cap3, by have := HLT.out; omega, by go_num, rfl, hid (fun h => by omega), hid (by rw [HTK.out, List.length_append, ← HM.out]; rfl), hid (by rw [HTK.out]; exact HO3.out), HE3⟩
          case measure => have := HLT.out; simp [intOf]; omega
        · have hkb : ((k.toNat : Int) == (kind.toNat : Int)) = false := by
            rw [beq_eq_false_iff_ne]
            intro e
            exact hk (UInt8.toNat_inj.1 (by omega))
          have HTK : Hid (numsL kind (l.take (j + 1)) = numsL kind (l.take j)) := hid (by rw [HSU.out]; unfold ofKind; rw [hr]; simp [hk])
          clear hr hk
          have hc := read_any s wr HSL.out
          rw [HV.out] at hc
          refine hc.mono ?_
          clear hc
          rintro e w2 ⟨rfl, hx⟩
          have HE2 := hid (HE.out.trans hx)
          have HO2 := hid (HO.out.ext hx)
          clear hx
          go_wp2
          go_roundw
          case rel => exact ⟨j + 1, m, oo, oc, by have := HLT.out; omega, by go_num, rfl, HNIL, hid (by rw [HTK.out]; exact HM.out), hid (by rw [HTK.out]; exact HO2.out), HE2⟩
          case measure => have := HLT.out; simp [intOf]; omega
    · have hjf : decide ((j : Int) < (l.length : Int)) = false := by simp; omega
      obtain rfl : j = l.length := by omega
      have HNL : Hid (numsL kind (l.take l.length) = numsL kind l) := hid (by rw [List.take_length])
      have hO := HO.out
      have hM := HM.out
      rw [HNL.out] at hO hM
      obtain ⟨L, hL⟩ : ∃ L, numsL kind l = L := ⟨_, rfl⟩
      have HLL := hid hL
      rw [hL] at hO hM
      have hml : m ≤ 1000 := by have := numsL_len kind l l.length; rw [List.take_length, hL] at this; have := HN.out; omega
      rcases Nat.eq_zero_or_pos m with hm0 | hm0
      · obtain ⟨rfl, rfl⟩ := HNIL.out hm0
        have HLN : Hid (L = []) := hid (List.length_eq_zero_iff.1 (by omega))
        subst hm0
        clear hO hM hL HO HM HNL
        go_wp2_with fail
        refine (sortNil_any wr).mono ?_
        rintro e w2 ⟨⟨u, rfl⟩, rfl⟩
        go_wp2
        go_returns
        refine ⟨⟨_, rfl, ?_⟩, HE.out⟩
        rw [HLL.out, HLN.out, List.mergeSort_nil]
        exact OwV.nil _ _ _
      obtain ⟨g, rfl⟩ := hO.addr hm0
      have HML := hid hM
      have HOO : Hid (RowU wr w.heap.size g m oc L) := hid (by have h9 := hO; unfold OwV at h9; rw [← hM] at h9; exact h9)
      clear hO hM hL HO HM HNL
      go_wp2_with fail
      refine (sortV_any g m oc L HOO.out HML.out.symm (by omega)).mono ?_
      rintro e w2 ⟨⟨u, rfl⟩, hr, hf⟩
      have HR := hid hr
      have HE2 : Hid (Ext w w2) := hid (Below.trans HE.out (hf.below (by have := row_lo HOO.out g (by simp [oB, Value.ownBlock]); simpa using this) HE.out.size))
      have HPL : Hid ((L.mergeSort leU).length = m) := hid (by rw [List.length_mergeSort]; exact HML.out.symm)
      clear hr hf
      go_wp2
      go_returns
      refine ⟨⟨_, rfl, ?_⟩, HE2.out⟩
      rw [HLL.out]
      have h9 := HR.out
      unfold OwV
      rw [HPL.out]
      exact h9
end Go.Proofs.YtekjflndblgegaaDoor
