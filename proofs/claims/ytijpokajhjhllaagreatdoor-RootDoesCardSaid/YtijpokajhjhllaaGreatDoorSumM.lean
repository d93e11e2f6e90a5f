/- Package sum: Cut.
Package sum: divided, Table.
Package sum: More, Of, sumBytes, Put. -/
import Derived.Test.YtijpokajhjhllaaGreatDoorRows
import Derived.Test.YtijpokajhjhllaaGreatDoorLib
import Derived.Test.YtijpokajhjhllaaGreatDoorCrc
import Derived.Test.YtijpokajhjhllaaGreatDoorPar
import Derived.Deep.QuietTactic
import Derived.BigQuiet
set_option maxRecDepth 100000
namespace Go.Proofs.YtijpokajhjhllaaGreatDoor
open Go.RowKit Go.Tum Go.Tum.Crc

theorem divStep_odd {m : Nat} (h : m % 2 = 1) : divStep m = m / 2 ^^^ 2197175160 := by unfold divStep; rw [if_pos h]
theorem divStep_even {m : Nat} (h : m % 2 = 0) : divStep m = m / 2 := by unfold divStep; rw [if_neg (by omega)]

theorem and1 (m : Nat) (hm : m < 4294967296) : bits .and .u32 (m : Int) 1 = ((m % 2 : Nat) : Int) := by
  have := u32_and_nat m 1 hm (by omega)
  rw [nat_mask1] at this; exact this

theorem divided_any (x : Int) (n : Nat) (hx : x = n) (hn : n < 4294967296) (w : World) :
    Calls Tryz.prog 137 #[.int .u32 x] w fun e w' => e = .returned (.int .u32 (divN 8 n : Nat)) ∧ w = w' := by
  subst hx
  go_enter Tryz.func137, Tryz.ntmps137
  go_wp2
  go_loop [0, 4] (fun v i => ∃ k : Nat, k ≤ 8 ∧ i = .int .i64 k ∧ ∃ m : Nat, m < 4294967296 ∧ Hid (m = divN k n) ∧ v = .int .u32 m) (fun _ i => 8 - (intOf i).toNat)
  case atStart => exact ⟨0, by omega, rfl, n, hn, rfl, rfl⟩
  case round =>
    obtain ⟨k, hk, rfl, m, hm, HM, rfl⟩ := hrel
    by_cases hlt : k < 8
    · rcases Nat.mod_two_eq_zero_or_one m with h2 | h2
      · have e2 : (bits .and .u32 (m : Int) 1 == 1) = false := by
          rw [and1 m hm, h2]; rfl
        have H2 := hid h2
        clear h2
        go_wp2
        go_round
        case rel => exact ⟨k + 1, by omega, by go_num, m / 2, by omega, by have := HM.out; subst this; exact (divStep_even H2.out).symm, by go_num⟩
        case measure => simp [intOf]; omega
      · have e2 : (bits .and .u32 (m : Int) 1 == 1) = true := by
          rw [and1 m hm, h2]; rfl
        have e3 : bits .xor .u32 ((m : Int) / 2) 2197175160 = ((m / 2 ^^^ 2197175160 : Nat) : Int) := u32_xor_nat (m / 2) 2197175160 (by omega) (by omega)
        have H2 := hid h2
        clear h2
        go_wp2
        go_round
        case rel => exact ⟨k + 1, by omega, by go_num, m / 2 ^^^ 2197175160, Nat.xor_lt_two_pow (n := 32) (by omega) (by decide), by have := HM.out; subst this; exact (divStep_odd H2.out).symm, rfl⟩
        case measure => simp [intOf]; omega
    · obtain rfl : k = 8 := by omega
      go_wp2
      go_ret
      have := HM.out; subst this
      exact ⟨rfl, rfl⟩

/-- The table's row of cells, its first k numbers told. -/
def tabArr (k : Nat) : Array Value := ((List.range 256).map fun i => Value.int .u32 ((if i < k then tab i else 0 : Nat) : Int)).toArray
theorem tabArr_get {k i : Nat} (h : i < 256) (hi : i < k) : (tabArr k)[i]? = some (.int .u32 (tab i : Nat)) := by
  simp [tabArr, h, hi]
theorem tabArr_zero {k : Nat} (h : k < 256) : (tabArr k)[k]? = some (.int .u32 0) := by
  simp [tabArr, h]
theorem tabArr_set {k : Nat} (h : k < 256) : (tabArr k).setIfInBounds k (.int .u32 (tab k : Nat)) = tabArr (k + 1) := by
  unfold tabArr
  rw [List.setIfInBounds_toArray]
  congr 1
  apply List.ext_getElem?
  intro i
  rw [List.getElem?_set]
  by_cases e : k = i
  · subst e; simp [h]
  · rw [if_neg e, List.getElem?_map, List.getElem?_map]
    by_cases h2 : i < 256
    · have : (i < k + 1) ↔ (i < k) := by omega
      simp [h2, this]
    · simp [h2]
def low (k : Nat) : Nat := (BitVec.ofNat 64 k &&& -BitVec.ofNat 64 k).toNat
theorem low_all : ∀ k : Fin 256, bits .and .i64 ((k.val : Nat) : Int) (-((k.val : Nat) : Int)) = ((low k.val : Nat) : Int) ∧
    (low k.val = k.val ∨ (low k.val < k.val ∧ bits .xor .i64 ((k.val : Nat) : Int) ((low k.val : Nat) : Int) = ((k.val ^^^ low k.val : Nat) : Int) ∧ k.val ^^^ low k.val < k.val)) := by decide +kernel

theorem zero31 (w : World) : (zeroValue 176).run Tryz.prog w = .ok (.agg (tabArr 0)) w := by kernel_rfl

set_option maxRecDepth 100000 in
set_option maxHeartbeats 2000000 in
theorem table_any (w : World) :
    Calls Tryz.prog 136 #[] w fun e w' => e = .returned (.agg (tabArr 256)) ∧ Ext w w' := by
  have hal := zero31
  go_enter Tryz.func136, Tryz.ntmps136
  go_wp2
  go_loopw [4] (fun i wr => ∃ k : Nat, k ≤ 256 ∧ i = .int .i64 k ∧ wr.heap[w.heap.size]? = some (.cells (tabArr 0) 176 (0, 0)) ∧ wr.heap[w.heap.size + 1]? = some (.cells (tabArr k) 176 (0, 0)) ∧ Below w.heap.size w wr) (fun i _ => 256 - (intOf i).toNat)
  case atStart =>
    exact ⟨0, by omega, rfl, heap_alloc2_old _ _ _, heap_alloc2_new _ _ _, ((Below.refl _ _).alloc (Nat.le_refl _) _).alloc (by simp) _⟩
  case round =>
    obtain ⟨k, hk, rfl, h0, h1, hb⟩ := hrel
    have hs0 := hb.size
    have hlen : w.heap.size + 1 < wr.heap.size := (Array.getElem?_eq_some_iff.1 h1).1
    by_cases hlt : k < 256
    · obtain ⟨hl1, hl2⟩ := low_all ⟨k, hlt⟩
      simp only at hl1 hl2
      have hck : wr.cell? ⟨w.heap.size + 1, k, none⟩ = some (.int .u32 0) := by rw [cell_of_row wr _ _ _ _ _ h1]; exact tabArr_zero hlt
      have hfk : wr.frozen? ⟨w.heap.size + 1, k, none⟩ = false := frozen_of_row wr _ _ _ _ h1
      have fin : ∀ (W : World), W.heap = wr.heap → W.os = wr.os → W.tape = wr.tape → W.output = wr.output →
          (W.setCell ⟨w.heap.size + 1, k, none⟩ (.int .u32 (tab k : Nat))).heap[w.heap.size]? = some (.cells (tabArr 0) 176 (0, 0)) ∧
          (W.setCell ⟨w.heap.size + 1, k, none⟩ (.int .u32 (tab k : Nat))).heap[w.heap.size + 1]? = some (.cells (tabArr (k + 1)) 176 (0, 0)) ∧
          Below w.heap.size w (W.setCell ⟨w.heap.size + 1, k, none⟩ (.int .u32 (tab k : Nat))) := by
        intro W e1 e2 e3 e4
        refine ⟨?_, ?_, ?_⟩
        · rw [heap_setCell_other _ _ _ _ (by simp), e1]; exact h0
        · rw [heap_setCell_same W _ _ (tabArr k) 176 _ (by rw [e1]; exact h1), tabArr_set hlt]
        · exact (hb.trans (c := W) ⟨e2, e3, e4, by rw [e1]; exact Nat.le_refl _, fun i _ => by rw [e1]⟩).setCell (by simp) _
      have FIN := hid fin
      have H0 := hid h0
      have H1 := hid h1
      clear fin h0 h1
      by_cases hkl : low k = k
      · have e1 : ((k : Int) == bits .and .i64 (k : Int) (-(k : Int))) = true := by rw [hl1, hkl]; simp
        have HKL := hid hkl
        have HL2 := hid hl2
        clear hl1 hl2 hkl
        go_wp2_with (go_at_call 137; refine (divided_any _ k ?_ (by omega) _).mono ?_; rfl; rintro e w' ⟨rfl, rfl⟩)
        go_roundw
        case rel =>
          have := FIN.out wr rfl rfl rfl rfl
          exact ⟨k + 1, by omega, by go_num, this.1, this.2.1, this.2.2⟩
        case measure => simp [intOf]; omega
      · obtain ⟨hl3, hl4, hl5⟩ := hl2.resolve_left hkl
        have e1 : ((k : Int) == bits .and .i64 (k : Int) (-(k : Int))) = false := by rw [hl1]; simp; omega
        generalize hL : low k = L at *
        have hcl : wr.cell? ⟨w.heap.size + 1, L, none⟩ = some (.int .u32 (tab L : Nat)) := by rw [cell_of_row wr _ _ _ _ _ H1.out]; exact tabArr_get (by omega) hl3
        have hcx : wr.cell? ⟨w.heap.size + 1, k ^^^ L, none⟩ = some (.int .u32 (tab (k ^^^ L) : Nat)) := by rw [cell_of_row wr _ _ _ _ _ H1.out]; exact tabArr_get (by omega) hl5
        have hxor : bits .xor .u32 (tab L : Nat) (tab (k ^^^ L) : Nat) = ((tab k : Nat) : Int) := by
          rw [u32_xor_nat _ _ (tab_lt _ (by omega)) (tab_lt _ (by omega))]
          congr 1
          unfold tab
          rw [← divN_xor]; congr 1
          rw [Nat.xor_comm L, Nat.xor_assoc, Nat.xor_self, Nat.xor_zero]
        have hL1 : L < 256 := by omega
        have hL2 : k ^^^ L < 256 := by omega
        have HL := hid hL
        clear hL hkl
        go_wp2
        go_region
        go_wp2
        go_roundw
        case rel =>
          have := FIN.out wr.drew rfl rfl rfl rfl
          exact ⟨k + 1, by omega, by go_num, this.1, this.2.1, this.2.2⟩
        case measure => simp [intOf]; omega
    · obtain rfl : k = 256 := by omega
      have H0 := hid h0
      have H1 := hid h1
      clear h0 h1
      have hsz : (tabArr 256).size = 256 := by simp [tabArr]
      have hsz0 : (tabArr 0).size = (tabArr 256).size := by simp [tabArr]
      have HS0 := hid hsz0
      clear hsz hsz0
      have hall : (tabArr 256).all (·.oneCell') = true := by
        rw [← Array.all_toList]; simp [tabArr]; intro _ _; rfl
      have HALL := hid hall
      clear hall
      go_wp2_with (first | (refine wpList_load_row rfl 176 (.tmp 1) rfl (w.heap.size + 1) rfl 176 (tabArr 256) (0, 0) _ H1.out Tryz.underlying176 rfl (by kernel_rfl) ?_) | (refine wpList_store_row rfl 176 (.tmp 0) (.tmp 31) rfl w.heap.size (tabArr 256) rfl rfl 176 (tabArr 0) H0.out (by kernel_rfl) HS0.out HALL.out ?_))
      refine bodyPost_ret (results_cell_row rfl _ _ w.heap.size 176 (tabArr 256) (0, 0) _ rfl (setRow_heap _ _ _ _ _ _ H0.out) Tryz.underlying176 rfl (by kernel_rfl)) rfl ⟨rfl, ?_⟩
      exact hb.trans ⟨rfl, rfl, rfl, by simp, fun i hi => setRow_other _ _ _ _ (by omega)⟩
end Go.Proofs.YtijpokajhjhllaaGreatDoor

set_option maxRecDepth 100000
namespace Go.Proofs.YtijpokajhjhllaaGreatDoor
open Go.RowKit Go.Tum Go.Tum.Crc

theorem not_u32 (s : Nat) (h : s < 4294967296) : bits .xor .u32 IntKind.u32.max (s : Int) = ((4294967295 - s : Nat) : Int) := by
  have := u32_xor_nat 4294967295 s (by omega) h
  rw [show IntKind.u32.max = ((4294967295 : Nat) : Int) from rfl, this]
  congr 1
  have e : 4294967295 ^^^ s = 2 ^ 32 - 1 - s := by
    apply Nat.eq_of_testBit_eq; intro i
    rw [Nat.testBit_xor, show (4294967295 : Nat) = 2 ^ 32 - 1 from rfl, Nat.testBit_two_pow_sub_one, Nat.sub_sub, Nat.add_comm 1 s, Nat.testBit_two_pow_sub_succ (by omega)]
    by_cases hi : i < 32
    · simp [hi]
    · simp [hi]
      exact Nat.testBit_lt_two_pow (Nat.lt_of_lt_of_le h (show 2 ^ 32 ≤ 2 ^ i from Nat.pow_le_pow_right (by decide) (by omega)))
  omega

theorem byte_of_u32 (m : Nat) : IntKind.u8.wrap (m : Int) = ((m % 256 : Nat) : Int) := by rw [IntKind.wrap_u8']; omega

set_option maxRecDepth 100000 in
set_option maxHeartbeats 2000000 in
theorem more_any (x : Int) (s : Nat) (hx : x = s) (hs : s < 4294967296) (v : Value) (l : List UInt8) (w : World) (hb : Byt w v l) :
    Calls Tryz.prog 133 #[.int .u32 x, v] w fun e w' => e = .returned (.int .u32 (more s l : Nat)) ∧ Ext w w' := by
  subst hx
  obtain ⟨ao, cap, rfl, hle, hm, hnn, hcell⟩ := hb.open
  have HB := hid hb
  clear hb
  have hz := zero31
  have HS0 : Hid ((tabArr 0).size = (tabArr 256).size) := hid (by simp [tabArr])
  have HALL : Hid ((tabArr 256).all (·.oneCell') = true) := hid (by rw [← Array.all_toList]; simp [tabArr]; intro _ _; rfl)
  have hsg : IntKind.u32.signed = false := rfl
  have hnot := not_u32 s hs
  go_enter Tryz.func133, Tryz.ntmps133
  go_wp2_with (first | (go_at_call 136; refine (table_any _).mono ?_; rintro e w1 ⟨rfl, hw1⟩) | (refine wpList_store_row rfl 176 (.tmp 5) (.tmp 9) rfl w1.heap.size (tabArr 256) rfl rfl 176 (tabArr 0) (heap_alloc_new _ _) (by kernel_rfl) HS0.out HALL.out ?_))
  have hW1 : Ext w ((w1.alloc (.cells (tabArr 0) 176)).setRow w1.heap.size (tabArr 256)) :=
    Below.trans hw1 ⟨rfl, rfl, rfl, by simp, fun i hi => by rw [setRow_other _ _ _ _ (by have := hw1.size; omega)]; refine heap_alloc_old _ _ ?_; have := hw1.size; omega⟩
  have hW2 := setRow_heap (w1.alloc (.cells (tabArr 0) 176)) w1.heap.size (tabArr 0) (tabArr 256) 176 (0, 0) (heap_alloc_new _ _)
  generalize ((w1.alloc (.cells (tabArr 0) 176)).setRow w1.heap.size (tabArr 256)) = W at hW1 hW2
  generalize w1.heap.size = B at hW2
  have htab : ∀ j, j < 256 → W.cell? ⟨B, j, none⟩ = some (.int .u32 (tab j : Nat)) := fun j hj => by rw [cell_of_row W _ _ _ _ _ hW2]; exact tabArr_get hj hj
  have HT := hid htab
  have HC := hid hcell
  have HW := hid hW1
  have HW2 := hid hW2
  clear htab hcell hW1 hW2 hz hw1
  go_loop [6, 14] (fun v i => ∃ k : Nat, k ≤ l.length ∧ i = .int .i64 k ∧ ∃ m : Nat, m < 4294967296 ∧ Hid (m = crcFold (4294967295 - s) (l.take k)) ∧ v = .int .u32 m) (fun _ i => l.length - (intOf i).toNat)
  case atStart => exact ⟨0, by omega, rfl, 4294967295 - s, by omega, rfl, rfl⟩
  case round =>
    obtain ⟨k, hk, rfl, m, hm2, HM, rfl⟩ := hrel
    by_cases hlt : k < l.length
    · obtain ⟨a, rfl⟩ := hnn (by omega)
      have hc : W.cell? (a.add k) = some (.int .u8 (l[k].toNat : Int)) := HW.out.cell (HC.out a rfl k hlt)
      have hu := (l[k]).toNat_lt
      have hx8 : bits .xor .u8 ((m : Int) % 256) (l[k].toNat : Int) = ((m % 256 ^^^ l[k].toNat : Nat) : Int) := u8_xor_nat (m % 256) _ (by omega) (by omega)
      have hlt8 : m % 256 ^^^ l[k].toNat < 256 := Nat.xor_lt_two_pow (n := 8) (by omega) (by omega)
      have ht := HT.out _ hlt8
      have hx32 : bits .xor .u32 ((m : Int) / 256) ((tab (m % 256 ^^^ l[k].toNat) : Nat) : Int) = ((crcStep m l[k] : Nat) : Int) := by
        have := u32_xor_nat (m / 256) _ (by omega) (tab_lt _ hlt8)
        rw [crcStep_tab]; exact this
      have hcl := crcStep_lt m l[k] hm2
      have hs2 := crcFold_snoc (4294967295 - s) l k hlt
      have HS2 := hid hs2
      clear hs2
      go_wp2
      go_round
      case rel => exact ⟨k + 1, by omega, by go_num, _, hcl, by rw [Hid, HS2.out, ← HM.out], rfl⟩
      case measure => simp [intOf]; omega
    · obtain rfl : k = l.length := by omega
      have hnot2 := not_u32 m hm2
      go_wp2
      go_ret
      refine ⟨?_, HW.out⟩
      have := HM.out
      rw [List.take_length] at this
      subst this
      rfl

theorem of_any (v : Value) (l : List UInt8) (w : World) (hb : Byt w v l) :
    Calls Tryz.prog 124 #[v] w fun e w' => e = .returned (.int .u32 (Crc.sum l : Nat)) ∧ Ext w w' := by
  obtain ⟨ao, cap, rfl, hle, hm, hnn, hcell⟩ := hb.open
  clear hcell hnn
  have HB := hid hb
  clear hb
  go_enter Tryz.func124, Tryz.ntmps124
  go_wp2_with (go_at_call 133; refine (more_any _ 0 ?_ (by omega) _ l _ HB.out).mono ?_; rfl; rintro e w1 ⟨rfl, hw1⟩)
  go_ret
  exact ⟨rfl, hw1⟩

theorem info5 : (Tryz.prog.info? 5).map (fun i => (i.zero, i.size, i.bytes)) = some (some (.int .u8 0), 1, 1) := by kernel_rfl
/-- A number's j-th byte. -/
theorem four_get (n : Nat) (j : Nat) (h : j < 4) : (four n)[j]? = some (UInt8.ofNat (n / 2 ^ (8 * j) % 256)) := by
  match j, h with
  | 0, _ => simp [four]
  | 1, _ => rfl
  | 2, _ => rfl
  | 3, _ => rfl

theorem sumBytes_any (v : Value) (l : List UInt8) (w : World) (hb : Byt w v l) :
    Calls Tryz.prog 109 #[v] w fun e w' => ∃ r, e = .returned r ∧ Own w' w.heap.size 5 r (four (Crc.sum l)) ∧ Ext w w' := by
  obtain ⟨ao, cap, rfl, hle, hm, hnn, hcell⟩ := hb.open
  clear hcell hnn
  have HB := hid hb
  clear hb
  go_enter Tryz.func109, Tryz.ntmps109
  have hmk : ∀ w, (Instr.makeSlice 37 (.int .i64 4) (.int .i64 4)).run Tryz.prog w = .ok (.slice (some ⟨w.heap.size, 0, none⟩) 4 4) (w.alloc (.cells #[.int .u8 0, .int .u8 0, .int .u8 0, .int .u8 0] 5)) := fun _ => by kernel_rfl
  go_wp2_with (go_at_call 124; refine (of_any _ l _ HB.out).mono ?_; rintro e w1 ⟨rfl, hw1⟩)
  have hlt := more_lt 0 l
  change Crc.sum l < 4294967296 at hlt
  generalize hN : Crc.sum l = N at *
  have HN := hid hN
  clear hN
  refine wp_loop_rounds 5 ?_
  rw [rounds_succ]
  go_wp2
  rw [rounds_succ]
  go_wp2
  rw [rounds_succ]
  go_wp2
  rw [rounds_succ]
  go_wp2
  rw [rounds_succ]
  go_wp2
  go_ret
  rw [HN.out]
  refine ⟨_, rfl, own_lit _ _ _ _ _ ?_ _ rfl hw1.size (by simp [four, maxLen]), hw1.trans (Ext.alloc _ _)⟩
  have e0 : ((N : Int) % 256) = ((UInt8.ofNat (N % 256)).toNat : Int) := by simp
  have e1 : ((N : Int) / 256 % 256) = ((UInt8.ofNat (N / 256 % 256)).toNat : Int) := by simp
  have e2 : ((N : Int) / 65536 % 256) = ((UInt8.ofNat (N / 65536 % 256)).toNat : Int) := by simp
  have e3 : ((N : Int) / 16777216) = ((UInt8.ofNat (N / 16777216 % 256)).toNat : Int) := by simp; omega
  rw [e0, e1, e2, e3]
  rfl

theorem put_any (v : Value) (l : List UInt8) (w : World) (hb : Byt w v l) (hl : l.length ≤ 1048576) :
    Calls Tryz.prog 95 #[v] w fun e w' => ∃ r, e = .returned r ∧ Own w' w.heap.size 5 r (Crc.put l) ∧ Ext w w' := by
  obtain ⟨ao, cap, rfl, hle, hm, hnn, hcell⟩ := hb.open
  clear hcell hnn
  have HB := hid hb
  clear hb
  obtain ⟨i5, hi5, hz5, hs5, hb5⟩ := info_parts info5
  go_enter Tryz.func95, Tryz.ntmps95
  go_wp2_with (first
    | (at_make; refine wpList_make_own _ rfl _ _ 37 rfl w.heap.size 5 i5 (.int .u8 0) 1 Tryz.underlying37 hi5 hz5 hs5 _ _ _ (l.length + 4) rfl rfl (by omega) (by rw [hb5]; omega) (by simp [maxLen]; omega) (Nat.le_refl _) ?_; intro w1 hown1 hg1)
    | (at_builtin; refine wpList_append_byt rfl (.tmp 8) (.tmp 9) 37 rfl w.heap.size 5 Tryz.underlying37 info5 rfl (show Own w1 w.heap.size 5 _ [] from hown1) rfl (HB.out.ext (Ext.grown hg1 rfl)) l.length (by simp) (by omega) hg1.size ?_; intro ao2 cap2 w2 hown2 hg2 hb2)
    | (go_at_call 109; refine (sumBytes_any _ l _ (HB.out.ext (Below.trans (Ext.grown hg1 rfl) hb2))).mono ?_; rintro e w3 ⟨r, rfl, hr3, hw3⟩)
    | (at_builtin; refine wpList_append_byt rfl (.tmp 11) (.tmp 13) 37 rfl w.heap.size 5 Tryz.underlying37 info5 rfl (hown2.ext hw3) rfl hr3.byt (l.length + 4) (by simp [four]) (by omega) (Nat.le_trans hg1.size (Nat.le_trans hb2.size hw3.size)) ?_; intro ao4 cap4 w4 hown4 hg4 hb4))
  go_ret
  refine ⟨_, rfl, ?_, Below.trans (Below.trans (Below.trans (Ext.grown hg1 rfl) hb2) (hw3.mono (Nat.le_trans hg1.size hb2.size))) hb4⟩
  simpa [Own, Crc.put, four] using hown4
end Go.Proofs.YtijpokajhjhllaaGreatDoor

set_option maxRecDepth 100000
namespace Go.Proofs.YtijpokajhjhllaaGreatDoor
open Go.RowKit Go.Tum Go.Tum.Crc

theorem cut_any (v : Value) (l : List UInt8) (w : World) (hb : Byt w v l) (hl : l.length ≤ 1048576) :
    Calls Tryz.prog 102 #[v] w fun e w' => ∃ r, e = .returned (.tuple #[r, .bool (isPut l)]) ∧ Own w' w.heap.size 5 r (Crc.cut l) ∧ Ext w w' := by
  obtain ⟨ao, cap, rfl, hle, hm, hnn, hcell⟩ := hb.open
  clear hcell hnn
  have HB := hid hb
  clear hb
  by_cases h4 : l.length < 4
  · have hd : decide ((l.length : Int) - 4 < 0) = true := by simp; omega
    go_enter Tryz.func102, Tryz.ntmps102
    go_wp2
    go_quiet (fail)
    go_wp2
    go_ret2
    have h1 : isPut l = false := by unfold isPut; simp; omega
    refine ⟨.slice none 0 0, by rw [h1]; rfl, by unfold Crc.cut; rw [h1]; exact Own.nil _ _ _, Ext.drewN _ _⟩
  · have h4' : 4 ≤ l.length := by omega
    go_enter Tryz.func102, Tryz.ntmps102
    go_wp2
    have hp1 : Byt w (.slice ao (l.length - 4) cap) (l.take (l.length - 4)) := by
      have := Byt.part HB.out 0 (l.length - 4) (by omega) (by omega) ao (by split <;> simp [Addr.add])
      simpa using this
    have hp2 := Byt.part HB.out (l.length - 4) l.length (by omega) (by omega) _ rfl
    rw [List.take_of_length_le (by simp)] at hp2
    simp only [Nat.mul_one] at hp2
    have HP1 := hid hp1
    have HP2 := hid hp2
    clear hp1 hp2
    have hI1 : (4 : Int) ≤ l.length := by omega
    have hI2 : (l.length : Int) - 4 ≤ cap := by omega
    have hI3 : (l.length : Int) - 4 ≤ l.length := by omega
    have hd0 : decide ((l.length : Int) - 4 < 0) = false := by simp; omega
    have hlen4 : ((l.length : Int) - 4).toNat = l.length - 4 := by omega
    refine Par.wp_region_par (l := [_, _, _, _, _, _, _, _, _, _, _, _, _, _]) rfl Ext (Par.VL [Par.EQ (Value.int IntKind.i64 ((l.length : Int) - 4)), Par.EQ (Value.bool false), Par.EQ (Value.bool false), Par.EQ (Value.slice ao l.length cap), Par.EQ (Value.int IntKind.i64 ((l.length : Int) - 4)), Par.EQ (Value.slice ao (l.length - 4) cap), (fun v w' => Own w' w.heap.size 5 v (four (Crc.sum (l.take (l.length - 4))))), Par.EQ (Value.string (str (four (Crc.sum (l.take (l.length - 4)))))), Par.EQ (Value.slice ao l.length cap), Par.EQ (Value.int IntKind.i64 ((l.length : Int) - 4)), Par.EQ (Value.slice (if cap = l.length - 4 then ao else Option.map (fun x => x.add (l.length - 4)) ao) (l.length - (l.length - 4)) (cap - (l.length - 4))), Par.EQ (Value.string (str (l.drop (l.length - 4)))), Par.EQ (Value.bool (!(four (Crc.sum (l.take (l.length - 4))) == l.drop (l.length - 4)))), Par.EQ (Value.bool (!(four (Crc.sum (l.take (l.length - 4))) == l.drop (l.length - 4))))]) (by kernel_rfl) Ext.refl (fun _ _ _ h1 h2 => Ext.trans h1 h2) (Ext.draw _) (Par.VL_stab ?_) ?_ ?_
    · simp only [List.forall_mem_cons, List.not_mem_nil, false_implies, implies_true, and_true]
      refine ⟨fun _ _ _ _ h => h, fun _ _ _ _ h => h, fun _ _ _ _ h => h, fun _ _ _ _ h => h, fun _ _ _ _ h => h, fun _ _ _ _ h => h, fun _ _ _ k h => Own.ext h k, fun _ _ _ _ h => h, fun _ _ _ _ h => h, fun _ _ _ _ h => h, fun _ _ _ _ h => h, fun _ _ _ _ h => h, fun _ _ _ _ h => h, fun _ _ _ _ h => h⟩
    · refine ⟨⟨fun _ _ => trivial, fun ρ w' hX hG hk => ?_⟩, ?_⟩
      · exact Par.val_of_run rfl ⟨Ext.refl _, hk.1⟩
      refine ⟨⟨fun _ _ => trivial, fun ρ w' hX hG hk => ?_⟩, ?_⟩
      · obtain ⟨k0, k1, -⟩ := hk
        have e0 : ρ (.tmp 8) = Value.int IntKind.i64 ((l.length : Int) - 4) := k0
        have e1 : ρ (Operand.const (Value.int IntKind.i64 0)) = (Value.int IntKind.i64 0) := k1
        clear k0 k1
        refine Par.val_k fun K hK => ?_
        unfold Par.val
        (go_simp; exact hK _ _ ⟨Ext.refl _, rfl⟩)
      refine ⟨⟨fun _ _ => trivial, fun ρ w' hX hG hk => ?_⟩, ?_⟩
      · exact Par.val_of_run rfl ⟨Ext.refl _, hk.1⟩
      refine ⟨⟨fun _ _ u hu => .inl hu, fun ρ w' hX hG hk => ?_⟩, ?_⟩
      · exact Par.val_of_run rfl ⟨Ext.refl _, hk.1⟩
      refine ⟨⟨fun _ _ u hu => .inl hu, fun ρ w' hX hG hk => ?_⟩, ?_⟩
      · exact Par.val_of_run rfl ⟨Ext.refl _, hk.1⟩
      refine ⟨⟨fun _ _ u hu => .inl hu, fun ρ w' hX hG hk => ?_⟩, ?_⟩
      · obtain ⟨k0, k1, -⟩ := hk
        have e0 : ρ (.tmp 11) = Value.slice ao l.length cap := k0
        have e1 : ρ (.tmp 12) = Value.int IntKind.i64 ((l.length : Int) - 4) := k1
        clear k0 k1
        refine Par.val_k fun K hK => ?_
        unfold Par.val
        (go_simp; exact hK _ _ ⟨Ext.refl _, rfl⟩)
      refine ⟨⟨fun _ _ u hu => .inl hu, fun ρ w' hX hG hk => ?_⟩, ?_⟩
      · obtain ⟨k0, k1, -⟩ := hk
        have e0 := k0
        have e1 : ρ (.tmp 13) = Value.slice ao (l.length - 4) cap := k1
        clear k0 k1
        refine Par.val_k fun K hK => ?_
        unfold Par.val
        refine Par.val_call Tryz.func109 (by kernel_rfl) rfl e0 ?_
        simp only [List.map_toArray, List.map_cons, List.map_nil, e1]
        refine (sumBytes_any _ _ _ (HP1.out.ext hX)).mono ?_
        rintro e w2 ⟨r, rfl, hr, hx2⟩
        exact ⟨_, rfl, hK _ _ ⟨hx2, hr.mono hX.size⟩⟩
      refine ⟨⟨fun _ _ u hu => .inl hu, fun ρ w' hX hG hk => ?_⟩, ?_⟩
      · obtain ⟨k0, -⟩ := hk
        have e0 : (fun v w' => Own w' w.heap.size 5 v (four (Crc.sum (l.take (l.length - 4))))) (ρ (.tmp 14)) w' := k0
        clear k0
        refine Par.val_k fun K hK => ?_
        unfold Par.val
        (have := run_string_byt (P := Tryz.prog) e0.byt 37 9 5 Tryz.underlying37 Tryz.underlying5 Tryz.underlying9; go_simp; exact hK _ _ ⟨Ext.refl _, rfl⟩)
      refine ⟨⟨fun _ _ u hu => .inl hu, fun ρ w' hX hG hk => ?_⟩, ?_⟩
      · exact Par.val_of_run rfl ⟨Ext.refl _, hk.1⟩
      refine ⟨⟨fun _ _ u hu => .inl hu, fun ρ w' hX hG hk => ?_⟩, ?_⟩
      · exact Par.val_of_run rfl ⟨Ext.refl _, hk.1⟩
      refine ⟨⟨fun _ _ u hu => .inl hu, fun ρ w' hX hG hk => ?_⟩, ?_⟩
      · obtain ⟨k0, k1, -⟩ := hk
        have e0 : ρ (.tmp 16) = Value.slice ao l.length cap := k0
        have e1 : ρ (.tmp 17) = Value.int IntKind.i64 ((l.length : Int) - 4) := k1
        clear k0 k1
        refine Par.val_k fun K hK => ?_
        unfold Par.val
        (go_simp; exact hK _ _ ⟨Ext.refl _, rfl⟩)
      refine ⟨⟨fun _ _ u hu => .inl hu, fun ρ w' hX hG hk => ?_⟩, ?_⟩
      · obtain ⟨k0, -⟩ := hk
        have e0 : ρ (.tmp 18) = Value.slice (if cap = l.length - 4 then ao else Option.map (fun x => x.add (l.length - 4)) ao) (l.length - (l.length - 4)) (cap - (l.length - 4)) := k0
        clear k0
        refine Par.val_k fun K hK => ?_
        unfold Par.val
        (have := run_string_byt (P := Tryz.prog) (HP2.out.ext hX) 37 9 5 Tryz.underlying37 Tryz.underlying5 Tryz.underlying9; go_simp; exact hK _ _ ⟨Ext.refl _, rfl⟩)
      refine ⟨⟨fun _ _ u hu => .inl hu, fun ρ w' hX hG hk => ?_⟩, ?_⟩
      · obtain ⟨k0, k1, -⟩ := hk
        have e0 : ρ (.tmp 15) = Value.string (str (four (Crc.sum (l.take (l.length - 4))))) := k0
        have e1 : ρ (.tmp 19) = Value.string (str (l.drop (l.length - 4))) := k1
        clear k0 k1
        refine Par.val_k fun K hK => ?_
        unfold Par.val
        (go_simp; exact hK _ _ ⟨Ext.refl _, rfl⟩)
      refine ⟨⟨fun _ _ => trivial, fun ρ w' hX hG hk => ?_⟩, ?_⟩
      · obtain ⟨k0, k1, k2, -⟩ := hk
        have e0 : ρ (.tmp 10) = Value.bool false := k0
        have e1 : ρ (Operand.const (Value.bool true)) = (Value.bool true) := k1
        have e2 : ρ (.tmp 20) = Value.bool (!(four (Crc.sum (l.take (l.length - 4))) == l.drop (l.length - 4))) := k2
        clear k0 k1 k2
        refine Par.val_k fun K hK => ?_
        unfold Par.val
        (go_simp; exact hK _ _ ⟨Ext.refl _, rfl⟩)
      trivial
    intro a' w' inv
    have hX := inv.ext
    have q8 : a'.tmps.getD 8 undef = Value.int IntKind.i64 ((l.length : Int) - 4) := inv.done 0 _ 8 rfl rfl rfl
    have q9 : a'.tmps.getD 9 undef = Value.bool false := inv.done 1 _ 9 rfl rfl rfl
    have q10 : a'.tmps.getD 10 undef = Value.bool false := inv.done 2 _ 10 rfl rfl rfl
    have q11 : a'.tmps.getD 11 undef = Value.slice ao l.length cap := inv.done 3 _ 11 rfl rfl rfl
    have q12 : a'.tmps.getD 12 undef = Value.int IntKind.i64 ((l.length : Int) - 4) := inv.done 4 _ 12 rfl rfl rfl
    have q13 : a'.tmps.getD 13 undef = Value.slice ao (l.length - 4) cap := inv.done 5 _ 13 rfl rfl rfl
    have q14 : (fun v w' => Own w' w.heap.size 5 v (four (Crc.sum (l.take (l.length - 4))))) (a'.tmps.getD 14 undef) w' := inv.done 6 _ 14 rfl rfl rfl
    have q15 : a'.tmps.getD 15 undef = Value.string (str (four (Crc.sum (l.take (l.length - 4))))) := inv.done 7 _ 15 rfl rfl rfl
    have q16 : a'.tmps.getD 16 undef = Value.slice ao l.length cap := inv.done 8 _ 16 rfl rfl rfl
    have q17 : a'.tmps.getD 17 undef = Value.int IntKind.i64 ((l.length : Int) - 4) := inv.done 9 _ 17 rfl rfl rfl
    have q18 : a'.tmps.getD 18 undef = Value.slice (if cap = l.length - 4 then ao else Option.map (fun x => x.add (l.length - 4)) ao) (l.length - (l.length - 4)) (cap - (l.length - 4)) := inv.done 10 _ 18 rfl rfl rfl
    have q19 : a'.tmps.getD 19 undef = Value.string (str (l.drop (l.length - 4))) := inv.done 11 _ 19 rfl rfl rfl
    have q20 : a'.tmps.getD 20 undef = Value.bool (!(four (Crc.sum (l.take (l.length - 4))) == l.drop (l.length - 4))) := inv.done 12 _ 20 rfl rfl rfl
    have q21 : a'.tmps.getD 21 undef = Value.bool (!(four (Crc.sum (l.take (l.length - 4))) == l.drop (l.length - 4))) := inv.done 13 _ 21 rfl rfl rfl
    clear inv
    simp only [List.filterMap_cons, List.filterMap_nil, Par.putAll, Act.put, List.setIfInBounds_toArray, List.set_cons_succ, List.set_cons_zero, q8, q9, q10, q11, q12, q13, q15, q16, q17, q18, q19, q20, q21]
    clear q8 q9 q10 q11 q12 q13 q15 q16 q17 q18 q19 q20 q21
    generalize a'.tmps.getD 14 undef = u14 at *
    clear a'
    have hlast : isPut l = (four (Crc.sum (l.take (l.length - 4))) == l.drop (l.length - 4)) := isPut_eq l h4'
    generalize (four (Crc.sum (l.take (l.length - 4))) == l.drop (l.length - 4)) = b at hlast ⊢
    cases b with
    | true =>
      go_wp2_with (at_builtin; refine wpList_append_byt rfl (.const (.slice none 0 0)) (.tmp 24) 37 rfl w.heap.size 5 Tryz.underlying37 info5 rfl (Own.nil _ _ _) rfl (HP1.out.ext hX) (l.length - 4) (by simp) (by omega) hX.size ?_; intro ao2 cap2 w2 hown2 hg2 hb2)
      go_ret2
      refine ⟨_, by first | rfl | (rw [hlast]; rfl), ?_, hX.below hb2⟩
      unfold Crc.cut
      rw [hlast]
      exact hown2
    | false =>
      go_wp2
      go_ret2
      refine ⟨_, by first | rfl | (rw [hlast]; rfl), ?_, hX⟩
      unfold Crc.cut
      rw [hlast]
      exact Own.nil _ _ _
end Go.Proofs.YtijpokajhjhllaaGreatDoor

