/- Package sum: divided, Table. -/
import Derived.Test.YtiblhopjhpflpaaDoorRows
import Derived.Test.YtiblhopjhpflpaaDoorLib
import Derived.Test.YtiblhopjhpflpaaDoorCrc
set_option maxRecDepth 100000
namespace Go.Proofs.YtiblhopjhpflpaaDoor
open Go.RowKit Go.Tum Go.Tum.Crc

theorem divStep_odd {m : Nat} (h : m % 2 = 1) : divStep m = m / 2 ^^^ 2197175160 := by unfold divStep; rw [if_pos h]
theorem divStep_even {m : Nat} (h : m % 2 = 0) : divStep m = m / 2 := by unfold divStep; rw [if_neg (by omega)]

theorem and1 (m : Nat) (hm : m < 4294967296) : bits .and .u32 (m : Int) 1 = ((m % 2 : Nat) : Int) := by
  have := u32_and_nat m 1 hm (by omega)
  rw [nat_mask1] at this; exact this

theorem divided_any (x : Int) (n : Nat) (hx : x = n) (hn : n < 4294967296) (w : World) :
    Calls Tryd.prog 97 #[.int .u32 x] w fun e w' => e = .returned (.int .u32 (divN 8 n : Nat)) ∧ w = w' := by
  subst hx
  go_enter Tryd.func97, Tryd.ntmps97
  go_wp2
  go_loop [0, 4] (fun v i => ∃ k : Nat, k ≤ 8 ∧ i = .int .i64 k ∧ ∃ m : Nat, m < 4294967296 ∧ Hid (m = divN k n) ∧ v = .int .u32 m) (fun _ i => 8 - (intOf i).toNat)
  case atStart => exact ⟨0, by omega, rfl, n, hn, rfl, rfl⟩
  case round =>
    obtain ⟨k, hk, rfl, m, hm, HM, rfl⟩ := hrel
    by_cases hlt : k < 8
    · rcases Nat.mod_two_eq_zero_or_one m with h2 | h2
      · have e2 : (bits .and .u32 (m : Int) 1 == 1) = false := by
          rw [and1 m hm, h2]; rfl
        have H2 := hid h2
        clear h2
        go_wp2
        go_round
        case rel => exact ⟨k + 1, by omega, by go_num, m / 2, by omega, by have := HM.out; subst this; exact (divStep_even H2.out).symm, by go_num⟩
        case measure => simp [intOf]; omega
      · have e2 : (bits .and .u32 (m : Int) 1 == 1) = true := by
          rw [and1 m hm, h2]; rfl
        have e3 : bits .xor .u32 ((m : Int) / 2) 2197175160 = ((m / 2 ^^^ 2197175160 : Nat) : Int) := u32_xor_nat (m / 2) 2197175160 (by omega) (by omega)
        have H2 := hid h2
        clear h2
        go_wp2
        go_round
        case rel => exact ⟨k + 1, by omega, by go_num, m / 2 ^^^ 2197175160, Nat.xor_lt_two_pow (n := 32) (by omega) (by decide), by have := HM.out; subst this; exact (divStep_odd H2.out).symm, rfl⟩
        case measure => simp [intOf]; omega
    · obtain rfl : k = 8 := by omega
      go_wp2
      go_ret
      have := HM.out; subst this
      exact ⟨rfl, rfl⟩

/-- The table's row of cells, its first k numbers told. -/
def tabArr (k : Nat) : Array Value := ((List.range 256).map fun i => Value.int .u32 ((if i < k then tab i else 0 : Nat) : Int)).toArray
theorem tabArr_get {k i : Nat} (h : i < 256) (hi : i < k) : (tabArr k)[i]? = some (.int .u32 (tab i : Nat)) := by
  simp [tabArr, h, hi]
theorem tabArr_zero {k : Nat} (h : k < 256) : (tabArr k)[k]? = some (.int .u32 0) := by
  simp [tabArr, h]
theorem tabArr_set {k : Nat} (h : k < 256) : (tabArr k).setIfInBounds k (.int .u32 (tab k : Nat)) = tabArr (k + 1) := by
  unfold tabArr
  rw [List.setIfInBounds_toArray]
  congr 1
  apply List.ext_getElem?
  intro i
  rw [List.getElem?_set]
  by_cases e : k = i
  · subst e; simp [h]
  · rw [if_neg e, List.getElem?_map, List.getElem?_map]
    by_cases h2 : i < 256
    · have : (i < k + 1) ↔ (i < k) := by omega
      simp [h2, this]
    · simp [h2]
def low (k : Nat) : Nat := (BitVec.ofNat 64 k &&& -BitVec.ofNat 64 k).toNat
theorem low_all : ∀ k : Fin 256, bits .and .i64 ((k.val : Nat) : Int) (-((k.val : Nat) : Int)) = ((low k.val : Nat) : Int) ∧
    (low k.val = k.val ∨ (low k.val < k.val ∧ bits .xor .i64 ((k.val : Nat) : Int) ((low k.val : Nat) : Int) = ((k.val ^^^ low k.val : Nat) : Int) ∧ k.val ^^^ low k.val < k.val)) := by decide +kernel

theorem zero31 (w : World) : (zeroValue 132).run Tryd.prog w = .ok (.agg (tabArr 0)) w := by kernel_rfl

set_option maxRecDepth 100000 in
set_option maxHeartbeats 2000000 in
theorem table_any (w : World) :
    Calls Tryd.prog 96 #[] w fun e w' => e = .returned (.agg (tabArr 256)) ∧ Ext w w' := by
  have hal := zero31
  go_enter Tryd.func96, Tryd.ntmps96
  go_wp2
  go_loopw [4] (fun i wr => ∃ k : Nat, k ≤ 256 ∧ i = .int .i64 k ∧ wr.heap[w.heap.size]? = some (.cells (tabArr 0) 132 (0, 0)) ∧ wr.heap[w.heap.size + 1]? = some (.cells (tabArr k) 132 (0, 0)) ∧ Below w.heap.size w wr) (fun i _ => 256 - (intOf i).toNat)
  case atStart =>
    exact ⟨0, by omega, rfl, heap_alloc2_old _ _ _, heap_alloc2_new _ _ _, ((Below.refl _ _).alloc (Nat.le_refl _) _).alloc (by simp) _⟩
  case round =>
    obtain ⟨k, hk, rfl, h0, h1, hb⟩ := hrel
    have hs0 := hb.size
    have hlen : w.heap.size + 1 < wr.heap.size := (Array.getElem?_eq_some_iff.1 h1).1
    by_cases hlt : k < 256
    · obtain ⟨hl1, hl2⟩ := low_all ⟨k, hlt⟩
      simp only at hl1 hl2
      have hck : wr.cell? ⟨w.heap.size + 1, k, none⟩ = some (.int .u32 0) := by rw [cell_of_row wr _ _ _ _ _ h1]; exact tabArr_zero hlt
      have hfk : wr.frozen? ⟨w.heap.size + 1, k, none⟩ = false := frozen_of_row wr _ _ _ _ h1
      have fin : ∀ (W : World), W.heap = wr.heap → W.os = wr.os → W.tape = wr.tape → W.output = wr.output →
          (W.setCell ⟨w.heap.size + 1, k, none⟩ (.int .u32 (tab k : Nat))).heap[w.heap.size]? = some (.cells (tabArr 0) 132 (0, 0)) ∧
          (W.setCell ⟨w.heap.size + 1, k, none⟩ (.int .u32 (tab k : Nat))).heap[w.heap.size + 1]? = some (.cells (tabArr (k + 1)) 132 (0, 0)) ∧
          Below w.heap.size w (W.setCell ⟨w.heap.size + 1, k, none⟩ (.int .u32 (tab k : Nat))) := by
        intro W e1 e2 e3 e4
        refine ⟨?_, ?_, ?_⟩
        · rw [heap_setCell_other _ _ _ _ (by simp), e1]; exact h0
        · rw [heap_setCell_same W _ _ (tabArr k) 132 _ (by rw [e1]; exact h1), tabArr_set hlt]
        · exact (hb.trans (c := W) ⟨e2, e3, e4, by rw [e1]; exact Nat.le_refl _, fun i _ => by rw [e1]⟩).setCell (by simp) _
      have FIN := hid fin
      have H0 := hid h0
      have H1 := hid h1
      clear fin h0 h1
      by_cases hkl : low k = k
      · have e1 : ((k : Int) == bits .and .i64 (k : Int) (-(k : Int))) = true := by rw [hl1, hkl]; simp
        have HKL := hid hkl
        have HL2 := hid hl2
        clear hl1 hl2 hkl
        go_wp2_with (go_at_call 97; refine (divided_any _ k ?_ (by omega) _).mono ?_; rfl; rintro e w' ⟨rfl, rfl⟩)
        go_roundw
        case rel =>
          have := FIN.out wr rfl rfl rfl rfl
          exact ⟨k + 1, by omega, by go_num, this.1, this.2.1, this.2.2⟩
        case measure => simp [intOf]; omega
      · obtain ⟨hl3, hl4, hl5⟩ := hl2.resolve_left hkl
        have e1 : ((k : Int) == bits .and .i64 (k : Int) (-(k : Int))) = false := by rw [hl1]; simp; omega
        generalize hL : low k = L at *
        have hcl : wr.cell? ⟨w.heap.size + 1, L, none⟩ = some (.int .u32 (tab L : Nat)) := by rw [cell_of_row wr _ _ _ _ _ H1.out]; exact tabArr_get (by omega) hl3
        have hcx : wr.cell? ⟨w.heap.size + 1, k ^^^ L, none⟩ = some (.int .u32 (tab (k ^^^ L) : Nat)) := by rw [cell_of_row wr _ _ _ _ _ H1.out]; exact tabArr_get (by omega) hl5
        have hxor : bits .xor .u32 (tab L : Nat) (tab (k ^^^ L) : Nat) = ((tab k : Nat) : Int) := by
          rw [u32_xor_nat _ _ (tab_lt _ (by omega)) (tab_lt _ (by omega))]
          congr 1
          unfold tab
          rw [← divN_xor]; congr 1
          rw [Nat.xor_comm L, Nat.xor_assoc, Nat.xor_self, Nat.xor_zero]
        have hL1 : L < 256 := by omega
        have hL2 : k ^^^ L < 256 := by omega
        have HL := hid hL
        clear hL hkl
        go_wp2
        go_region
        go_wp2
        go_roundw
        case rel =>
          have := FIN.out wr.drew rfl rfl rfl rfl
          exact ⟨k + 1, by omega, by go_num, this.1, this.2.1, this.2.2⟩
        case measure => simp [intOf]; omega
    · obtain rfl : k = 256 := by omega
      have H0 := hid h0
      have H1 := hid h1
      clear h0 h1
      have hsz : (tabArr 256).size = 256 := by simp [tabArr]
      have hsz0 : (tabArr 0).size = (tabArr 256).size := by simp [tabArr]
      have HS0 := hid hsz0
      clear hsz hsz0
      have hall : (tabArr 256).all (·.oneCell') = true := by
        rw [← Array.all_toList]; simp [tabArr]; intro _ _; rfl
      have HALL := hid hall
      clear hall
      go_wp2_with (first | (refine wpList_load_row rfl 132 (.tmp 1) rfl (w.heap.size + 1) rfl 132 (tabArr 256) (0, 0) _ H1.out Tryd.underlying132 rfl (by kernel_rfl) ?_) | (refine wpList_store_row rfl 132 (.tmp 0) (.tmp 31) rfl w.heap.size (tabArr 256) rfl rfl 132 (tabArr 0) H0.out (by kernel_rfl) HS0.out HALL.out ?_))
      refine bodyPost_ret (results_cell_row rfl _ _ w.heap.size 132 (tabArr 256) (0, 0) _ rfl (setRow_heap _ _ _ _ _ _ H0.out) Tryd.underlying132 rfl (by kernel_rfl)) rfl ⟨rfl, ?_⟩
      exact hb.trans ⟨rfl, rfl, rfl, by simp, fun i hi => setRow_other _ _ _ _ (by omega)⟩
end Go.Proofs.YtiblhopjhpflpaaDoor
