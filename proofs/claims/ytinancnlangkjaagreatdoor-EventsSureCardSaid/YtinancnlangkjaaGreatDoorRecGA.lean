/- Package vint: All.
Package sum: divided, Table.
Package sum: More, Of, sumBytes, Put.
Package sum: Cut.
Package frame: a frame's bytes.
Package frame: Read.
Package vint: Put, Get. -/
import Derived.Test.YtinancnlangkjaaGreatDoorRows
import Derived.Test.YtinancnlangkjaaGreatDoorLib
import Derived.Test.YtinancnlangkjaaGreatDoorCrc
import Derived.Test.YtinancnlangkjaaGreatDoorPar
import Derived.Deep.QuietTactic
import Derived.BigQuiet
import Derived.Test.YtinancnlangkjaaGreatDoorParB
import Derived.Test.YtinancnlangkjaaGreatDoorFrmM
import Derived.Handy
import Derived.Lib.SmallJoins
import Derived.Test.YtinancnlangkjaaGreatDoorVec
import Derived.Test.YtinancnlangkjaaGreatDoorVintM
import Derived.Deep.OwnRows
import Derived.Deep.Cut
set_option maxRecDepth 100000
namespace Go.Proofs.YtinancnlangkjaaGreatDoor
open Go.RowKit Go.Tum Go.Tum.Crc

theorem divStep_odd {m : Nat} (h : m % 2 = 1) : divStep m = m / 2 ^^^ 2197175160 := by unfold divStep; rw [if_pos h]
theorem divStep_even {m : Nat} (h : m % 2 = 0) : divStep m = m / 2 := by unfold divStep; rw [if_neg (by omega)]

theorem and1 (m : Nat) (hm : m < 4294967296) : bits .and .u32 (m : Int) 1 = ((m % 2 : Nat) : Int) := by
  have := u32_and_nat m 1 hm (by omega)
  rw [nat_mask1] at this; exact this

theorem divided_any (x : Int) (n : Nat) (hx : x = n) (hn : n < 4294967296) (w : World) :
    Calls Tryz.prog 158 #[.int .u32 x] w fun e w' => e = .returned (.int .u32 (divN 8 n : Nat)) ∧ w = w' := by
  subst hx
  go_enter Tryz.func158, Tryz.ntmps158
  go_wp2
  go_loop [0, 4] (fun v i => ∃ k : Nat, k ≤ 8 ∧ i = .int .i64 k ∧ ∃ m : Nat, m < 4294967296 ∧ Hid (m = divN k n) ∧ v = .int .u32 m) (fun _ i => 8 - (intOf i).toNat)
  case atStart => exact ⟨0, by omega, rfl, n, hn, rfl, rfl⟩
  case round =>
    obtain ⟨k, hk, rfl, m, hm, HM, rfl⟩ := hrel
    by_cases hlt : k < 8
    · rcases Nat.mod_two_eq_zero_or_one m with h2 | h2
      · have e2 : (bits .and .u32 (m : Int) 1 == 1) = false := by
          rw [and1 m hm, h2]; rfl
        have H2 := hid h2
        clear h2
        go_wp2
        go_round
        case rel => exact ⟨k + 1, by omega, by go_num, m / 2, by omega, by have := HM.out; subst this; exact (divStep_even H2.out).symm, by go_num⟩
        case measure => simp [intOf]; omega
      · have e2 : (bits .and .u32 (m : Int) 1 == 1) = true := by
          rw [and1 m hm, h2]; rfl
        have e3 : bits .xor .u32 ((m : Int) / 2) 2197175160 = ((m / 2 ^^^ 2197175160 : Nat) : Int) := u32_xor_nat (m / 2) 2197175160 (by omega) (by omega)
        have H2 := hid h2
        clear h2
        go_wp2
        go_round
        case rel => exact ⟨k + 1, by omega, by go_num, m / 2 ^^^ 2197175160, Nat.xor_lt_two_pow (n := 32) (by omega) (by decide), by have := HM.out; subst this; exact (divStep_odd H2.out).symm, rfl⟩
        case measure => simp [intOf]; omega
    · obtain rfl : k = 8 := by omega
      go_wp2
      go_ret
      have := HM.out; subst this
      exact ⟨rfl, rfl⟩

/-- The table's row of cells, its first k numbers told. -/
def tabArr (k : Nat) : Array Value := ((List.range 256).map fun i => Value.int .u32 ((if i < k then tab i else 0 : Nat) : Int)).toArray
theorem tabArr_get {k i : Nat} (h : i < 256) (hi : i < k) : (tabArr k)[i]? = some (.int .u32 (tab i : Nat)) := by
  simp [tabArr, h, hi]
theorem tabArr_zero {k : Nat} (h : k < 256) : (tabArr k)[k]? = some (.int .u32 0) := by
  simp [tabArr, h]
theorem tabArr_set {k : Nat} (h : k < 256) : (tabArr k).setIfInBounds k (.int .u32 (tab k : Nat)) = tabArr (k + 1) := by
  unfold tabArr
  rw [List.setIfInBounds_toArray]
  congr 1
  apply List.ext_getElem?
  intro i
  rw [List.getElem?_set]
  by_cases e : k = i
  · subst e; simp [h]
  · rw [if_neg e, List.getElem?_map, List.getElem?_map]
    by_cases h2 : i < 256
    · have : (i < k + 1) ↔ (i < k) := by omega
      simp [h2, this]
    · simp [h2]
def low (k : Nat) : Nat := (BitVec.ofNat 64 k &&& -BitVec.ofNat 64 k).toNat
theorem low_all : ∀ k : Fin 256, bits .and .i64 ((k.val : Nat) : Int) (-((k.val : Nat) : Int)) = ((low k.val : Nat) : Int) ∧
    (low k.val = k.val ∨ (low k.val < k.val ∧ bits .xor .i64 ((k.val : Nat) : Int) ((low k.val : Nat) : Int) = ((k.val ^^^ low k.val : Nat) : Int) ∧ k.val ^^^ low k.val < k.val)) := by decide +kernel

theorem zero31 (w : World) : (zeroValue 210).run Tryz.prog w = .ok (.agg (tabArr 0)) w := by kernel_rfl

set_option maxRecDepth 100000 in
set_option maxHeartbeats 2000000 in
theorem table_any (w : World) :
    Calls Tryz.prog 157 #[] w fun e w' => e = .returned (.agg (tabArr 256)) ∧ Ext w w' := by
  have hal := zero31
  go_enter Tryz.func157, Tryz.ntmps157
  go_wp2
  go_loopw [4] (fun i wr => ∃ k : Nat, k ≤ 256 ∧ i = .int .i64 k ∧ wr.heap[w.heap.size]? = some (.cells (tabArr 0) 210 (0, 0)) ∧ wr.heap[w.heap.size + 1]? = some (.cells (tabArr k) 210 (0, 0)) ∧ Below w.heap.size w wr) (fun i _ => 256 - (intOf i).toNat)
  case atStart =>
    exact ⟨0, by omega, rfl, heap_alloc2_old _ _ _, heap_alloc2_new _ _ _, ((Below.refl _ _).alloc (Nat.le_refl _) _).alloc (by simp) _⟩
  case round =>
    obtain ⟨k, hk, rfl, h0, h1, hb⟩ := hrel
    have hs0 := hb.size
    have hlen : w.heap.size + 1 < wr.heap.size := (Array.getElem?_eq_some_iff.1 h1).1
    by_cases hlt : k < 256
    · obtain ⟨hl1, hl2⟩ := low_all ⟨k, hlt⟩
      simp only at hl1 hl2
      have hck : wr.cell? ⟨w.heap.size + 1, k, none⟩ = some (.int .u32 0) := by rw [cell_of_row wr _ _ _ _ _ h1]; exact tabArr_zero hlt
      have hfk : wr.frozen? ⟨w.heap.size + 1, k, none⟩ = false := frozen_of_row wr _ _ _ _ h1
      have fin : ∀ (W : World), W.heap = wr.heap → W.os = wr.os → W.tape = wr.tape → W.output = wr.output →
          (W.setCell ⟨w.heap.size + 1, k, none⟩ (.int .u32 (tab k : Nat))).heap[w.heap.size]? = some (.cells (tabArr 0) 210 (0, 0)) ∧
          (W.setCell ⟨w.heap.size + 1, k, none⟩ (.int .u32 (tab k : Nat))).heap[w.heap.size + 1]? = some (.cells (tabArr (k + 1)) 210 (0, 0)) ∧
          Below w.heap.size w (W.setCell ⟨w.heap.size + 1, k, none⟩ (.int .u32 (tab k : Nat))) := by
        intro W e1 e2 e3 e4
        refine ⟨?_, ?_, ?_⟩
        · rw [heap_setCell_other _ _ _ _ (by simp), e1]; exact h0
        · rw [heap_setCell_same W _ _ (tabArr k) 210 _ (by rw [e1]; exact h1), tabArr_set hlt]
        · exact (hb.trans (c := W) ⟨e2, e3, e4, by rw [e1]; exact Nat.le_refl _, fun i _ => by rw [e1]⟩).setCell (by simp) _
      have FIN := hid fin
      have H0 := hid h0
      have H1 := hid h1
      clear fin h0 h1
      by_cases hkl : low k = k
      · have e1 : ((k : Int) == bits .and .i64 (k : Int) (-(k : Int))) = true := by rw [hl1, hkl]; simp
        have HKL := hid hkl
        have HL2 := hid hl2
        clear hl1 hl2 hkl
        go_wp2_with (go_at_call 158; refine (divided_any _ k ?_ (by omega) _).mono ?_; rfl; rintro e w' ⟨rfl, rfl⟩)
        go_roundw
        case rel =>
          have := FIN.out wr rfl rfl rfl rfl
          exact ⟨k + 1, by omega, by go_num, this.1, this.2.1, this.2.2⟩
        case measure => simp [intOf]; omega
      · obtain ⟨hl3, hl4, hl5⟩ := hl2.resolve_left hkl
        have e1 : ((k : Int) == bits .and .i64 (k : Int) (-(k : Int))) = false := by rw [hl1]; simp; omega
        generalize hL : low k = L at *
        have hcl : wr.cell? ⟨w.heap.size + 1, L, none⟩ = some (.int .u32 (tab L : Nat)) := by rw [cell_of_row wr _ _ _ _ _ H1.out]; exact tabArr_get (by omega) hl3
        have hcx : wr.cell? ⟨w.heap.size + 1, k ^^^ L, none⟩ = some (.int .u32 (tab (k ^^^ L) : Nat)) := by rw [cell_of_row wr _ _ _ _ _ H1.out]; exact tabArr_get (by omega) hl5
        have hxor : bits .xor .u32 (tab L : Nat) (tab (k ^^^ L) : Nat) = ((tab k : Nat) : Int) := by
          rw [u32_xor_nat _ _ (tab_lt _ (by omega)) (tab_lt _ (by omega))]
          congr 1
          unfold tab
          rw [← divN_xor]; congr 1
          rw [Nat.xor_comm L, Nat.xor_assoc, Nat.xor_self, Nat.xor_zero]
        have hL1 : L < 256 := by omega
        have hL2 : k ^^^ L < 256 := by omega
        have HL := hid hL
        clear hL hkl
        go_wp2
        go_region
        go_wp2
        go_roundw
        case rel =>
          have := FIN.out wr.drew rfl rfl rfl rfl
          exact ⟨k + 1, by omega, by go_num, this.1, this.2.1, this.2.2⟩
        case measure => simp [intOf]; omega
    · obtain rfl : k = 256 := by omega
      have H0 := hid h0
      have H1 := hid h1
      clear h0 h1
      have hsz : (tabArr 256).size = 256 := by simp [tabArr]
      have hsz0 : (tabArr 0).size = (tabArr 256).size := by simp [tabArr]
      have HS0 := hid hsz0
      clear hsz hsz0
      have hall : (tabArr 256).all (·.oneCell') = true := by
        rw [← Array.all_toList]; simp [tabArr]; intro _ _; rfl
      have HALL := hid hall
      clear hall
      go_wp2_with (first | (refine wpList_load_row rfl 210 (.tmp 1) rfl (w.heap.size + 1) rfl 210 (tabArr 256) (0, 0) _ H1.out Tryz.underlying210 rfl (by kernel_rfl) ?_) | (refine wpList_store_row rfl 210 (.tmp 0) (.tmp 31) rfl w.heap.size (tabArr 256) rfl rfl 210 (tabArr 0) H0.out (by kernel_rfl) HS0.out HALL.out ?_))
      refine bodyPost_ret (results_cell_row rfl _ _ w.heap.size 210 (tabArr 256) (0, 0) _ rfl (setRow_heap _ _ _ _ _ _ H0.out) Tryz.underlying210 rfl (by kernel_rfl)) rfl ⟨rfl, ?_⟩
      exact hb.trans ⟨rfl, rfl, rfl, by simp, fun i hi => setRow_other _ _ _ _ (by omega)⟩
end Go.Proofs.YtinancnlangkjaaGreatDoor

set_option maxRecDepth 100000
namespace Go.Proofs.YtinancnlangkjaaGreatDoor
open Go.RowKit Go.Tum Go.Tum.Crc

theorem not_u32 (s : Nat) (h : s < 4294967296) : bits .xor .u32 IntKind.u32.max (s : Int) = ((4294967295 - s : Nat) : Int) := by
  have := u32_xor_nat 4294967295 s (by omega) h
  rw [show IntKind.u32.max = ((4294967295 : Nat) : Int) from rfl, this]
  congr 1
  have e : 4294967295 ^^^ s = 2 ^ 32 - 1 - s := by
    apply Nat.eq_of_testBit_eq; intro i
    rw [Nat.testBit_xor, show (4294967295 : Nat) = 2 ^ 32 - 1 from rfl, Nat.testBit_two_pow_sub_one, Nat.sub_sub, Nat.add_comm 1 s, Nat.testBit_two_pow_sub_succ (by omega)]
    by_cases hi : i < 32
    · simp [hi]
    · simp [hi]
      exact Nat.testBit_lt_two_pow (Nat.lt_of_lt_of_le h (show 2 ^ 32 ≤ 2 ^ i from Nat.pow_le_pow_right (by decide) (by omega)))
  omega

theorem byte_of_u32 (m : Nat) : IntKind.u8.wrap (m : Int) = ((m % 256 : Nat) : Int) := by rw [IntKind.wrap_u8']; omega

set_option maxRecDepth 100000 in
set_option maxHeartbeats 2000000 in
theorem more_any (x : Int) (s : Nat) (hx : x = s) (hs : s < 4294967296) (v : Value) (l : List UInt8) (w : World) (hb : Byt w v l) :
    Calls Tryz.prog 154 #[.int .u32 x, v] w fun e w' => e = .returned (.int .u32 (more s l : Nat)) ∧ Ext w w' := by
  subst hx
  obtain ⟨ao, cap, rfl, hle, hm, hnn, hcell⟩ := hb.open
  have HB := hid hb
  clear hb
  have hz := zero31
  have HS0 : Hid ((tabArr 0).size = (tabArr 256).size) := hid (by simp [tabArr])
  have HALL : Hid ((tabArr 256).all (·.oneCell') = true) := hid (by rw [← Array.all_toList]; simp [tabArr]; intro _ _; rfl)
  have hsg : IntKind.u32.signed = false := rfl
  have hnot := not_u32 s hs
  go_enter Tryz.func154, Tryz.ntmps154
  go_wp2_with (first | (go_at_call 157; refine (table_any _).mono ?_; rintro e w1 ⟨rfl, hw1⟩) | (refine wpList_store_row rfl 210 (.tmp 5) (.tmp 9) rfl w1.heap.size (tabArr 256) rfl rfl 210 (tabArr 0) (heap_alloc_new _ _) (by kernel_rfl) HS0.out HALL.out ?_))
  have hW1 : Ext w ((w1.alloc (.cells (tabArr 0) 210)).setRow w1.heap.size (tabArr 256)) :=
    Below.trans hw1 ⟨rfl, rfl, rfl, by simp, fun i hi => by rw [setRow_other _ _ _ _ (by have := hw1.size; omega)]; refine heap_alloc_old _ _ ?_; have := hw1.size; omega⟩
  have hW2 := setRow_heap (w1.alloc (.cells (tabArr 0) 210)) w1.heap.size (tabArr 0) (tabArr 256) 210 (0, 0) (heap_alloc_new _ _)
  generalize ((w1.alloc (.cells (tabArr 0) 210)).setRow w1.heap.size (tabArr 256)) = W at hW1 hW2
  generalize w1.heap.size = B at hW2
  have htab : ∀ j, j < 256 → W.cell? ⟨B, j, none⟩ = some (.int .u32 (tab j : Nat)) := fun j hj => by rw [cell_of_row W _ _ _ _ _ hW2]; exact tabArr_get hj hj
  have HT := hid htab
  have HC := hid hcell
  have HW := hid hW1
  have HW2 := hid hW2
  clear htab hcell hW1 hW2 hz hw1
  go_loop [6, 14] (fun v i => ∃ k : Nat, k ≤ l.length ∧ i = .int .i64 k ∧ ∃ m : Nat, m < 4294967296 ∧ Hid (m = crcFold (4294967295 - s) (l.take k)) ∧ v = .int .u32 m) (fun _ i => l.length - (intOf i).toNat)
  case atStart => exact ⟨0, by omega, rfl, 4294967295 - s, by omega, rfl, rfl⟩
  case round =>
    obtain ⟨k, hk, rfl, m, hm2, HM, rfl⟩ := hrel
    by_cases hlt : k < l.length
    · obtain ⟨a, rfl⟩ := hnn (by omega)
      have hc : W.cell? (a.add k) = some (.int .u8 (l[k].toNat : Int)) := HW.out.cell (HC.out a rfl k hlt)
      have hu := (l[k]).toNat_lt
      have hx8 : bits .xor .u8 ((m : Int) % 256) (l[k].toNat : Int) = ((m % 256 ^^^ l[k].toNat : Nat) : Int) := u8_xor_nat (m % 256) _ (by omega) (by omega)
      have hlt8 : m % 256 ^^^ l[k].toNat < 256 := Nat.xor_lt_two_pow (n := 8) (by omega) (by omega)
      have ht := HT.out _ hlt8
      have hx32 : bits .xor .u32 ((m : Int) / 256) ((tab (m % 256 ^^^ l[k].toNat) : Nat) : Int) = ((crcStep m l[k] : Nat) : Int) := by
        have := u32_xor_nat (m / 256) _ (by omega) (tab_lt _ hlt8)
        rw [crcStep_tab]; exact this
      have hcl := crcStep_lt m l[k] hm2
      have hs2 := crcFold_snoc (4294967295 - s) l k hlt
      have HS2 := hid hs2
      clear hs2
      go_wp2
      go_round
      case rel => exact ⟨k + 1, by omega, by go_num, _, hcl, by rw [Hid, HS2.out, ← HM.out], rfl⟩
      case measure => simp [intOf]; omega
    · obtain rfl : k = l.length := by omega
      have hnot2 := not_u32 m hm2
      go_wp2
      go_ret
      refine ⟨?_, HW.out⟩
      have := HM.out
      rw [List.take_length] at this
      subst this
      rfl

theorem of_any (v : Value) (l : List UInt8) (w : World) (hb : Byt w v l) :
    Calls Tryz.prog 143 #[v] w fun e w' => e = .returned (.int .u32 (Crc.sum l : Nat)) ∧ Ext w w' := by
  obtain ⟨ao, cap, rfl, hle, hm, hnn, hcell⟩ := hb.open
  clear hcell hnn
  have HB := hid hb
  clear hb
  go_enter Tryz.func143, Tryz.ntmps143
  go_wp2_with (go_at_call 154; refine (more_any _ 0 ?_ (by omega) _ l _ HB.out).mono ?_; rfl; rintro e w1 ⟨rfl, hw1⟩)
  go_ret
  exact ⟨rfl, hw1⟩

theorem info5 : (Tryz.prog.info? 5).map (fun i => (i.zero, i.size, i.bytes)) = some (some (.int .u8 0), 1, 1) := by kernel_rfl
/-- A number's j-th byte. -/
theorem four_get (n : Nat) (j : Nat) (h : j < 4) : (four n)[j]? = some (UInt8.ofNat (n / 2 ^ (8 * j) % 256)) := by
  match j, h with
  | 0, _ => simp [four]
  | 1, _ => rfl
  | 2, _ => rfl
  | 3, _ => rfl

theorem sumBytes_any (v : Value) (l : List UInt8) (w : World) (hb : Byt w v l) :
    Calls Tryz.prog 124 #[v] w fun e w' => ∃ r, e = .returned r ∧ Own w' w.heap.size 5 r (four (Crc.sum l)) ∧ Ext w w' := by
  obtain ⟨ao, cap, rfl, hle, hm, hnn, hcell⟩ := hb.open
  clear hcell hnn
  have HB := hid hb
  clear hb
  go_enter Tryz.func124, Tryz.ntmps124
  have hmk : ∀ w, (Instr.makeSlice 35 (.int .i64 4) (.int .i64 4)).run Tryz.prog w = .ok (.slice (some ⟨w.heap.size, 0, none⟩) 4 4) (w.alloc (.cells #[.int .u8 0, .int .u8 0, .int .u8 0, .int .u8 0] 5)) := fun _ => by kernel_rfl
  go_wp2_with (go_at_call 143; refine (of_any _ l _ HB.out).mono ?_; rintro e w1 ⟨rfl, hw1⟩)
  have hlt := more_lt 0 l
  change Crc.sum l < 4294967296 at hlt
  generalize hN : Crc.sum l = N at *
  have HN := hid hN
  clear hN
  refine wp_loop_rounds 5 ?_
  rw [rounds_succ]
  go_wp2
  rw [rounds_succ]
  go_wp2
  rw [rounds_succ]
  go_wp2
  rw [rounds_succ]
  go_wp2
  rw [rounds_succ]
  go_wp2
  go_ret
  rw [HN.out]
  refine ⟨_, rfl, own_lit _ _ _ _ _ ?_ _ rfl hw1.size (by simp [four, maxLen]), hw1.trans (Ext.alloc _ _)⟩
  have e0 : ((N : Int) % 256) = ((UInt8.ofNat (N % 256)).toNat : Int) := by simp
  have e1 : ((N : Int) / 256 % 256) = ((UInt8.ofNat (N / 256 % 256)).toNat : Int) := by simp
  have e2 : ((N : Int) / 65536 % 256) = ((UInt8.ofNat (N / 65536 % 256)).toNat : Int) := by simp
  have e3 : ((N : Int) / 16777216) = ((UInt8.ofNat (N / 16777216 % 256)).toNat : Int) := by simp; omega
  rw [e0, e1, e2, e3]
  rfl

theorem put_any (v : Value) (l : List UInt8) (w : World) (hb : Byt w v l) (hl : l.length ≤ 1048576) :
    Calls Tryz.prog 107 #[v] w fun e w' => ∃ r, e = .returned r ∧ Own w' w.heap.size 5 r (Crc.put l) ∧ Ext w w' := by
  obtain ⟨ao, cap, rfl, hle, hm, hnn, hcell⟩ := hb.open
  clear hcell hnn
  have HB := hid hb
  clear hb
  obtain ⟨i5, hi5, hz5, hs5, hb5⟩ := info_parts info5
  go_enter Tryz.func107, Tryz.ntmps107
  go_wp2_with (first
    | (at_make; refine wpList_make_own _ rfl _ _ 35 rfl w.heap.size 5 i5 (.int .u8 0) 1 Tryz.underlying35 hi5 hz5 hs5 _ _ _ (l.length + 4) rfl rfl (by omega) (by rw [hb5]; omega) (by simp [maxLen]; omega) (Nat.le_refl _) ?_; intro w1 hown1 hg1)
    | (at_builtin; refine wpList_append_byt rfl (.tmp 8) (.tmp 9) 35 rfl w.heap.size 5 Tryz.underlying35 info5 rfl (show Own w1 w.heap.size 5 _ [] from hown1) rfl (HB.out.ext (Ext.grown hg1 rfl)) l.length (by simp) (by omega) hg1.size ?_; intro ao2 cap2 w2 hown2 hg2 hb2)
    | (go_at_call 124; refine (sumBytes_any _ l _ (HB.out.ext (Below.trans (Ext.grown hg1 rfl) hb2))).mono ?_; rintro e w3 ⟨r, rfl, hr3, hw3⟩)
    | (at_builtin; refine wpList_append_byt rfl (.tmp 11) (.tmp 13) 35 rfl w.heap.size 5 Tryz.underlying35 info5 rfl (hown2.ext hw3) rfl hr3.byt (l.length + 4) (by simp [four]) (by omega) (Nat.le_trans hg1.size (Nat.le_trans hb2.size hw3.size)) ?_; intro ao4 cap4 w4 hown4 hg4 hb4))
  go_ret
  refine ⟨_, rfl, ?_, Below.trans (Below.trans (Below.trans (Ext.grown hg1 rfl) hb2) (hw3.mono (Nat.le_trans hg1.size hb2.size))) hb4⟩
  simpa [Own, Crc.put, four] using hown4
end Go.Proofs.YtinancnlangkjaaGreatDoor

set_option maxRecDepth 100000
namespace Go.Proofs.YtinancnlangkjaaGreatDoor
open Go.RowKit Go.Tum Go.Tum.Crc

theorem cut_any (v : Value) (l : List UInt8) (w : World) (hb : Byt w v l) (hl : l.length ≤ 1048576) :
    Calls Tryz.prog 113 #[v] w fun e w' => ∃ r, e = .returned (.tuple #[r, .bool (isPut l)]) ∧ Own w' w.heap.size 5 r (Crc.cut l) ∧ Ext w w' := by
  obtain ⟨ao, cap, rfl, hle, hm, hnn, hcell⟩ := hb.open
  clear hcell hnn
  have HB := hid hb
  clear hb
  by_cases h4 : l.length < 4
  · have hd : decide ((l.length : Int) - 4 < 0) = true := by simp; omega
    go_enter Tryz.func113, Tryz.ntmps113
    go_wp2
    go_quiet (fail)
    go_wp2
    go_ret2
    have h1 : isPut l = false := by unfold isPut; simp; omega
    refine ⟨.slice none 0 0, by rw [h1]; rfl, by unfold Crc.cut; rw [h1]; exact Own.nil _ _ _, Ext.drewN _ _⟩
  · have h4' : 4 ≤ l.length := by omega
    go_enter Tryz.func113, Tryz.ntmps113
    go_wp2
    have hp1 : Byt w (.slice ao (l.length - 4) cap) (l.take (l.length - 4)) := by
      have := Byt.part HB.out 0 (l.length - 4) (by omega) (by omega) ao (by split <;> simp [Addr.add])
      simpa using this
    have hp2 := Byt.part HB.out (l.length - 4) l.length (by omega) (by omega) _ rfl
    rw [List.take_of_length_le (by simp)] at hp2
    simp only [Nat.mul_one] at hp2
    have HP1 := hid hp1
    have HP2 := hid hp2
    clear hp1 hp2
    have hI1 : (4 : Int) ≤ l.length := by omega
    have hI2 : (l.length : Int) - 4 ≤ cap := by omega
    have hI3 : (l.length : Int) - 4 ≤ l.length := by omega
    have hd0 : decide ((l.length : Int) - 4 < 0) = false := by simp; omega
    have hlen4 : ((l.length : Int) - 4).toNat = l.length - 4 := by omega
    refine Par.wp_region_par (l := [_, _, _, _, _, _, _, _, _, _, _, _, _, _]) rfl Ext (Par.VL [Par.EQ (Value.int IntKind.i64 ((l.length : Int) - 4)), Par.EQ (Value.bool false), Par.EQ (Value.bool false), Par.EQ (Value.slice ao l.length cap), Par.EQ (Value.int IntKind.i64 ((l.length : Int) - 4)), Par.EQ (Value.slice ao (l.length - 4) cap), (fun v w' => Own w' w.heap.size 5 v (four (Crc.sum (l.take (l.length - 4))))), Par.EQ (Value.string (str (four (Crc.sum (l.take (l.length - 4)))))), Par.EQ (Value.slice ao l.length cap), Par.EQ (Value.int IntKind.i64 ((l.length : Int) - 4)), Par.EQ (Value.slice (if cap = l.length - 4 then ao else Option.map (fun x => x.add (l.length - 4)) ao) (l.length - (l.length - 4)) (cap - (l.length - 4))), Par.EQ (Value.string (str (l.drop (l.length - 4)))), Par.EQ (Value.bool (!(four (Crc.sum (l.take (l.length - 4))) == l.drop (l.length - 4)))), Par.EQ (Value.bool (!(four (Crc.sum (l.take (l.length - 4))) == l.drop (l.length - 4))))]) (by kernel_rfl) Ext.refl (fun _ _ _ h1 h2 => Ext.trans h1 h2) (Ext.draw _) (Par.VL_stab ?_) ?_ ?_
    · simp only [List.forall_mem_cons, List.not_mem_nil, false_implies, implies_true, and_true]
      refine ⟨fun _ _ _ _ h => h, fun _ _ _ _ h => h, fun _ _ _ _ h => h, fun _ _ _ _ h => h, fun _ _ _ _ h => h, fun _ _ _ _ h => h, fun _ _ _ k h => Own.ext h k, fun _ _ _ _ h => h, fun _ _ _ _ h => h, fun _ _ _ _ h => h, fun _ _ _ _ h => h, fun _ _ _ _ h => h, fun _ _ _ _ h => h, fun _ _ _ _ h => h⟩
    · refine ⟨⟨fun _ _ => trivial, fun ρ w' hX hG hk => ?_⟩, ?_⟩
      · exact Par.val_of_run rfl ⟨Ext.refl _, hk.1⟩
      refine ⟨⟨fun _ _ => trivial, fun ρ w' hX hG hk => ?_⟩, ?_⟩
      · obtain ⟨k0, k1, -⟩ := hk
        have e0 : ρ (.tmp 8) = Value.int IntKind.i64 ((l.length : Int) - 4) := k0
        have e1 : ρ (Operand.const (Value.int IntKind.i64 0)) = (Value.int IntKind.i64 0) := k1
        clear k0 k1
        refine Par.val_k fun K hK => ?_
        unfold Par.val
        (go_simp; exact hK _ _ ⟨Ext.refl _, rfl⟩)
      refine ⟨⟨fun _ _ => trivial, fun ρ w' hX hG hk => ?_⟩, ?_⟩
      · exact Par.val_of_run rfl ⟨Ext.refl _, hk.1⟩
      refine ⟨⟨fun _ _ u hu => .inl hu, fun ρ w' hX hG hk => ?_⟩, ?_⟩
      · exact Par.val_of_run rfl ⟨Ext.refl _, hk.1⟩
      refine ⟨⟨fun _ _ u hu => .inl hu, fun ρ w' hX hG hk => ?_⟩, ?_⟩
      · exact Par.val_of_run rfl ⟨Ext.refl _, hk.1⟩
      refine ⟨⟨fun _ _ u hu => .inl hu, fun ρ w' hX hG hk => ?_⟩, ?_⟩
      · obtain ⟨k0, k1, -⟩ := hk
        have e0 : ρ (.tmp 11) = Value.slice ao l.length cap := k0
        have e1 : ρ (.tmp 12) = Value.int IntKind.i64 ((l.length : Int) - 4) := k1
        clear k0 k1
        refine Par.val_k fun K hK => ?_
        unfold Par.val
        (go_simp; exact hK _ _ ⟨Ext.refl _, rfl⟩)
      refine ⟨⟨fun _ _ u hu => .inl hu, fun ρ w' hX hG hk => ?_⟩, ?_⟩
      · obtain ⟨k0, k1, -⟩ := hk
        have e0 := k0
        have e1 : ρ (.tmp 13) = Value.slice ao (l.length - 4) cap := k1
        clear k0 k1
        refine Par.val_k fun K hK => ?_
        unfold Par.val
        refine Par.val_call Tryz.func124 (by kernel_rfl) rfl e0 ?_
        simp only [List.map_toArray, List.map_cons, List.map_nil, e1]
        refine (sumBytes_any _ _ _ (HP1.out.ext hX)).mono ?_
        rintro e w2 ⟨r, rfl, hr, hx2⟩
        exact ⟨_, rfl, hK _ _ ⟨hx2, hr.mono hX.size⟩⟩
      refine ⟨⟨fun _ _ u hu => .inl hu, fun ρ w' hX hG hk => ?_⟩, ?_⟩
      · obtain ⟨k0, -⟩ := hk
        have e0 : (fun v w' => Own w' w.heap.size 5 v (four (Crc.sum (l.take (l.length - 4))))) (ρ (.tmp 14)) w' := k0
        clear k0
        refine Par.val_k fun K hK => ?_
        unfold Par.val
        (have := run_string_byt (P := Tryz.prog) e0.byt 35 9 5 Tryz.underlying35 Tryz.underlying5 Tryz.underlying9; go_simp; exact hK _ _ ⟨Ext.refl _, rfl⟩)
      refine ⟨⟨fun _ _ u hu => .inl hu, fun ρ w' hX hG hk => ?_⟩, ?_⟩
      · exact Par.val_of_run rfl ⟨Ext.refl _, hk.1⟩
      refine ⟨⟨fun _ _ u hu => .inl hu, fun ρ w' hX hG hk => ?_⟩, ?_⟩
      · exact Par.val_of_run rfl ⟨Ext.refl _, hk.1⟩
      refine ⟨⟨fun _ _ u hu => .inl hu, fun ρ w' hX hG hk => ?_⟩, ?_⟩
      · obtain ⟨k0, k1, -⟩ := hk
        have e0 : ρ (.tmp 16) = Value.slice ao l.length cap := k0
        have e1 : ρ (.tmp 17) = Value.int IntKind.i64 ((l.length : Int) - 4) := k1
        clear k0 k1
        refine Par.val_k fun K hK => ?_
        unfold Par.val
        (go_simp; exact hK _ _ ⟨Ext.refl _, rfl⟩)
      refine ⟨⟨fun _ _ u hu => .inl hu, fun ρ w' hX hG hk => ?_⟩, ?_⟩
      · obtain ⟨k0, -⟩ := hk
        have e0 : ρ (.tmp 18) = Value.slice (if cap = l.length - 4 then ao else Option.map (fun x => x.add (l.length - 4)) ao) (l.length - (l.length - 4)) (cap - (l.length - 4)) := k0
        clear k0
        refine Par.val_k fun K hK => ?_
        unfold Par.val
        (have := run_string_byt (P := Tryz.prog) (HP2.out.ext hX) 35 9 5 Tryz.underlying35 Tryz.underlying5 Tryz.underlying9; go_simp; exact hK _ _ ⟨Ext.refl _, rfl⟩)
      refine ⟨⟨fun _ _ u hu => .inl hu, fun ρ w' hX hG hk => ?_⟩, ?_⟩
      · obtain ⟨k0, k1, -⟩ := hk
        have e0 : ρ (.tmp 15) = Value.string (str (four (Crc.sum (l.take (l.length - 4))))) := k0
        have e1 : ρ (.tmp 19) = Value.string (str (l.drop (l.length - 4))) := k1
        clear k0 k1
        refine Par.val_k fun K hK => ?_
        unfold Par.val
        (go_simp; exact hK _ _ ⟨Ext.refl _, rfl⟩)
      refine ⟨⟨fun _ _ => trivial, fun ρ w' hX hG hk => ?_⟩, ?_⟩
      · obtain ⟨k0, k1, k2, -⟩ := hk
        have e0 : ρ (.tmp 10) = Value.bool false := k0
        have e1 : ρ (Operand.const (Value.bool true)) = (Value.bool true) := k1
        have e2 : ρ (.tmp 20) = Value.bool (!(four (Crc.sum (l.take (l.length - 4))) == l.drop (l.length - 4))) := k2
        clear k0 k1 k2
        refine Par.val_k fun K hK => ?_
        unfold Par.val
        (go_simp; exact hK _ _ ⟨Ext.refl _, rfl⟩)
      trivial
    intro a' w' inv
    have hX := inv.ext
    have q8 : a'.tmps.getD 8 undef = Value.int IntKind.i64 ((l.length : Int) - 4) := inv.done 0 _ 8 rfl rfl rfl
    have q9 : a'.tmps.getD 9 undef = Value.bool false := inv.done 1 _ 9 rfl rfl rfl
    have q10 : a'.tmps.getD 10 undef = Value.bool false := inv.done 2 _ 10 rfl rfl rfl
    have q11 : a'.tmps.getD 11 undef = Value.slice ao l.length cap := inv.done 3 _ 11 rfl rfl rfl
    have q12 : a'.tmps.getD 12 undef = Value.int IntKind.i64 ((l.length : Int) - 4) := inv.done 4 _ 12 rfl rfl rfl
    have q13 : a'.tmps.getD 13 undef = Value.slice ao (l.length - 4) cap := inv.done 5 _ 13 rfl rfl rfl
    have q14 : (fun v w' => Own w' w.heap.size 5 v (four (Crc.sum (l.take (l.length - 4))))) (a'.tmps.getD 14 undef) w' := inv.done 6 _ 14 rfl rfl rfl
    have q15 : a'.tmps.getD 15 undef = Value.string (str (four (Crc.sum (l.take (l.length - 4))))) := inv.done 7 _ 15 rfl rfl rfl
    have q16 : a'.tmps.getD 16 undef = Value.slice ao l.length cap := inv.done 8 _ 16 rfl rfl rfl
    have q17 : a'.tmps.getD 17 undef = Value.int IntKind.i64 ((l.length : Int) - 4) := inv.done 9 _ 17 rfl rfl rfl
    have q18 : a'.tmps.getD 18 undef = Value.slice (if cap = l.length - 4 then ao else Option.map (fun x => x.add (l.length - 4)) ao) (l.length - (l.length - 4)) (cap - (l.length - 4)) := inv.done 10 _ 18 rfl rfl rfl
    have q19 : a'.tmps.getD 19 undef = Value.string (str (l.drop (l.length - 4))) := inv.done 11 _ 19 rfl rfl rfl
    have q20 : a'.tmps.getD 20 undef = Value.bool (!(four (Crc.sum (l.take (l.length - 4))) == l.drop (l.length - 4))) := inv.done 12 _ 20 rfl rfl rfl
    have q21 : a'.tmps.getD 21 undef = Value.bool (!(four (Crc.sum (l.take (l.length - 4))) == l.drop (l.length - 4))) := inv.done 13 _ 21 rfl rfl rfl
    clear inv
    simp only [List.filterMap_cons, List.filterMap_nil, Par.putAll, Act.put, List.setIfInBounds_toArray, List.set_cons_succ, List.set_cons_zero, q8, q9, q10, q11, q12, q13, q15, q16, q17, q18, q19, q20, q21]
    clear q8 q9 q10 q11 q12 q13 q15 q16 q17 q18 q19 q20 q21
    generalize a'.tmps.getD 14 undef = u14 at *
    clear a'
    have hlast : isPut l = (four (Crc.sum (l.take (l.length - 4))) == l.drop (l.length - 4)) := isPut_eq l h4'
    generalize (four (Crc.sum (l.take (l.length - 4))) == l.drop (l.length - 4)) = b at hlast ⊢
    cases b with
    | true =>
      go_wp2_with (at_builtin; refine wpList_append_byt rfl (.const (.slice none 0 0)) (.tmp 24) 35 rfl w.heap.size 5 Tryz.underlying35 info5 rfl (Own.nil _ _ _) rfl (HP1.out.ext hX) (l.length - 4) (by simp) (by omega) hX.size ?_; intro ao2 cap2 w2 hown2 hg2 hb2)
      go_ret2
      refine ⟨_, by first | rfl | (rw [hlast]; rfl), ?_, hX.below hb2⟩
      unfold Crc.cut
      rw [hlast]
      exact hown2
    | false =>
      go_wp2
      go_ret2
      refine ⟨_, by first | rfl | (rw [hlast]; rfl), ?_, hX⟩
      unfold Crc.cut
      rw [hlast]
      exact Own.nil _ _ _
end Go.Proofs.YtinancnlangkjaaGreatDoor

set_option maxRecDepth 100000
namespace Go.Proofs.YtinancnlangkjaaGreatDoor
open Go.RowKit Go.Tum Go.Tum.Crc

abbrev fv (x : Fr) (v : Value) : Value := .agg #[.int .u8 (x.kind.toNat : Int), v]

set_option maxRecDepth 100000 in
theorem nb_any (n : Nat) (h : n ≤ 400) (w : World) :
    Calls Tryz.prog 106 #[.int .u16 (n : Int), .int .i64 2] w fun e w' => ∃ r, e = .returned r ∧ Own w' w.heap.size 5 r [UInt8.ofNat (n % 256), UInt8.ofNat (n / 256 % 256)] ∧ Ext w w' := by
  go_enter Tryz.func106, Tryz.ntmps106
  have hmk : ∀ w, (Instr.makeSlice 35 (.int .i64 2) (.int .i64 2)).run Tryz.prog w = .ok (.slice (some ⟨w.heap.size, 0, none⟩) 2 2) (w.alloc (.cells #[.int .u8 0, .int .u8 0] 5)) := fun _ => by kernel_rfl
  go_wp2
  refine wp_loop_rounds 3 ?_
  rw [rounds_succ]
  go_wp2
  rw [rounds_succ]
  go_wp2
  rw [rounds_succ]
  go_wp2
  go_ret
  refine ⟨_, rfl, own_lit _ _ _ _ _ ?_ _ rfl (Nat.le_refl _) (by simp [maxLen]), Ext.alloc _ _⟩
  have e0 : ((n : Int) % 256) = ((UInt8.ofNat (n % 256)).toNat : Int) := by simp
  have e1 : ((n : Int) / 256) = ((UInt8.ofNat (n / 256 % 256)).toNat : Int) := by simp; omega
  rw [e0, e1]
  rfl

def fbytesR (x : Fr) : List UInt8 × Int := if 400 < x.body.length then ([], 4) else (fbytes x, 0)

set_option maxRecDepth 100000 in
theorem fbytes_any (x : Fr) (v : Value) (w : World) (hb : Byt w v x.body) :
    Calls Tryz.prog 86 #[fv x v] w fun e w' => ∃ r, e = .returned (.tuple #[r, .int .i64 (fbytesR x).2]) ∧ Own w' w.heap.size 5 r (fbytesR x).1 ∧ Ext w w' := by
  obtain ⟨ao, cap, rfl, hle, hm, hnn, hcell⟩ := hb.open
  clear hcell hnn
  have HB := hid hb
  clear hb
  by_cases h4 : 400 < x.body.length
  · have hdec : decide (400 < (x.body.length : Int)) = true := by simp; omega
    go_enter Tryz.func86, Tryz.ntmps86
    go_wp2
    go_ret2
    unfold fbytesR
    rw [if_pos h4]
    exact ⟨.slice none 0 0, rfl, Own.nil _ _ _, Ext.alloc _ _⟩
  · have hdec : decide (400 < (x.body.length : Int)) = false := by simp; omega
    go_enter Tryz.func86, Tryz.ntmps86
    go_wp2_with fail
    have c0 : (w.alloc (.cells #[.int .u8 (x.kind.toNat : Int), .slice ao x.body.length cap] 139)).cell? ⟨w.heap.size, 0, none⟩ = some (.int .u8 (x.kind.toNat : Int)) := by rw [cell_of_row _ _ _ _ _ _ (heap_alloc_new w _)]; rfl
    have c1 : (w.alloc (.cells #[.int .u8 (x.kind.toNat : Int), .slice ao x.body.length cap] 139)).cell? ⟨w.heap.size, 1, none⟩ = some (.slice ao x.body.length cap) := by rw [cell_of_row _ _ _ _ _ _ (heap_alloc_new w _)]; rfl
    have hE1 := Ext.alloc w (.cells #[.int .u8 (x.kind.toNat : Int), .slice ao x.body.length cap] 139)
    have hsz : w.heap.size ≤ (w.alloc (.cells #[.int .u8 (x.kind.toNat : Int), .slice ao x.body.length cap] 139)).heap.size := by simp
    generalize w.alloc (.cells #[.int .u8 (x.kind.toNat : Int), .slice ao x.body.length cap] 139) = W at *
    have HE := hid hE1
    have HSZ := hid hsz
    have C0 := hid c0
    have C1 := hid c1
    clear hE1 hsz c0 c1
    have hn : IntKind.u16.wrap (x.body.length : Int) = (x.body.length : Int) := IntWalk.u16_in _ (by omega)
    refine ParB.wp_region_par (l := [_, _, _, _, _, _, _, _, _, _]) rfl Ext (ParB.XI 8 (World.heap W).size) (ParB.VLB [ParB.EQ (Value.pointer (some ⟨w.heap.size, 0, none⟩)), ParB.EQ (Value.int IntKind.u8 (x.kind.toNat : Int)), (fun L v w' => L 8 = true ∨ Own w' W.heap.size 5 v [x.kind]), ParB.EQ (Value.pointer (some ⟨w.heap.size, 1, none⟩)), ParB.EQ (Value.slice ao x.body.length cap), ParB.EQ (Value.int IntKind.i64 (x.body.length : Int)), ParB.EQ (Value.int IntKind.u16 (x.body.length : Int)), (fun L v w' => L 8 = true ∨ Byt w' v [UInt8.ofNat (x.body.length % 256), UInt8.ofNat (x.body.length / 256 % 256)]), (fun L v w' => L 8 = true ∧ Own w' W.heap.size 5 v (hd x)), (fun L v w' => L 8 = true ∧ Own w' W.heap.size 5 v (hd x))]) (by kernel_rfl) (ParB.XI_refl _ _) ParB.XI_trans (Ext.draw _) (ParB.stab_mk 7 (by kernel_rfl) ?_ ?_) ?_ ?_
    · simp only [List.forall_mem_cons, List.not_mem_nil, false_implies, implies_true, and_true]
      refine ⟨fun _ _ _ _ _ _ h => h, fun _ _ _ _ _ _ h => h, fun i L v a b k hh => hh.imp (fun e => by simp [ParB.upd, e]) (fun q => q.ext k), fun _ _ _ _ _ _ h => h, fun _ _ _ _ _ _ h => h, fun _ _ _ _ _ _ h => h, fun _ _ _ _ _ _ h => h, fun i L v a b k hh => hh.imp (fun e => by simp [ParB.upd, e]) (fun q => q.ext k), fun i L v a b k hh => ⟨by simp [ParB.upd, hh.1], hh.2.ext k⟩, fun i L v a b k hh => ⟨by simp [ParB.upd, hh.1], hh.2.ext k⟩⟩
    · simp only [List.set_cons_succ, List.set_cons_zero, List.forall_mem_cons, List.not_mem_nil, false_implies, implies_true, and_true, true_and]
      refine ⟨fun _ _ _ _ _ _ h => h, fun _ _ _ _ _ _ h => h, fun L v a b hL k hh => .inl (by simp [ParB.upd]), fun _ _ _ _ _ _ h => h, fun _ _ _ _ _ _ h => h, fun _ _ _ _ _ _ h => h, fun _ _ _ _ _ _ h => h, fun L v a b hL k hh => .inl (by simp [ParB.upd]), fun L v a b hL k hh => absurd hh.1 (by simp [hL])⟩
    · refine ⟨⟨fun _ _ _ => trivial, fun L ρ w' hX hL hG hk => ?_⟩, ?_⟩
      · obtain ⟨k0, -⟩ := hk
        have e0 : ρ (.tmp 1) = Value.pointer (some ⟨w.heap.size, 0, none⟩) := k0
        clear k0
        refine Par.val_k fun K hK => ?_
        unfold Par.val
        (go_simp; exact hK _ _ ⟨ParB.XI_refl _ _ 0 _, rfl⟩)
      refine ⟨⟨fun _ _ _ => trivial, fun L ρ w' hX hL hG hk => ?_⟩, ?_⟩
      · obtain ⟨k0, -⟩ := hk
        have e0 : ρ (.tmp 9) = Value.pointer (some ⟨w.heap.size, 0, none⟩) := k0
        clear k0
        refine Par.val_k fun K hK => ?_
        unfold Par.val
        (have c := hX.cell C0.out; go_simp; exact hK _ _ ⟨ParB.XI_refl _ _ 1 _, rfl⟩)
      refine ⟨⟨fun _ _ _ => trivial, fun L ρ w' hX hL hG hk => ?_⟩, ?_⟩
      · obtain ⟨k0, -⟩ := hk
        have e0 : ρ (.tmp 10) = Value.int IntKind.u8 (x.kind.toNat : Int) := k0
        clear k0
        refine Par.val_k fun K hK => ?_
        unfold Par.val
        (go_simp; exact hK _ _ ⟨ParB.XI_other (i0 := 8) (i := 2) (by decide) (Ext.alloc _ _), .inr (own_lit w' _ _ [x.kind] _ rfl 1 rfl hX.size (by simp [maxLen]))⟩)
      refine ⟨⟨fun _ _ _ => trivial, fun L ρ w' hX hL hG hk => ?_⟩, ?_⟩
      · obtain ⟨k0, -⟩ := hk
        have e0 : ρ (.tmp 1) = Value.pointer (some ⟨w.heap.size, 0, none⟩) := k0
        clear k0
        refine Par.val_k fun K hK => ?_
        unfold Par.val
        (go_simp; exact hK _ _ ⟨ParB.XI_refl _ _ 3 _, rfl⟩)
      refine ⟨⟨fun _ _ _ => trivial, fun L ρ w' hX hL hG hk => ?_⟩, ?_⟩
      · obtain ⟨k0, -⟩ := hk
        have e0 : ρ (.tmp 12) = Value.pointer (some ⟨w.heap.size, 1, none⟩) := k0
        clear k0
        refine Par.val_k fun K hK => ?_
        unfold Par.val
        (have c := hX.cell C1.out; go_simp; exact hK _ _ ⟨ParB.XI_refl _ _ 4 _, rfl⟩)
      refine ⟨⟨fun _ _ _ => trivial, fun L ρ w' hX hL hG hk => ?_⟩, ?_⟩
      · obtain ⟨k0, -⟩ := hk
        have e0 : ρ (.tmp 13) = Value.slice ao x.body.length cap := k0
        clear k0
        refine Par.val_k fun K hK => ?_
        unfold Par.val
        (go_simp; exact hK _ _ ⟨ParB.XI_refl _ _ 5 _, rfl⟩)
      refine ⟨⟨fun _ _ _ => trivial, fun L ρ w' hX hL hG hk => ?_⟩, ?_⟩
      · obtain ⟨k0, -⟩ := hk
        have e0 : ρ (.tmp 14) = Value.int IntKind.i64 (x.body.length : Int) := k0
        clear k0
        refine Par.val_k fun K hK => ?_
        unfold Par.val
        (go_simp; exact hK _ _ ⟨ParB.XI_refl _ _ 6 _, rfl⟩)
      refine ⟨⟨fun _ _ _ => trivial, fun L ρ w' hX hL hG hk => ?_⟩, ?_⟩
      · obtain ⟨k0, k1, k2, -⟩ := hk
        have e0 := k0
        have e1 : ρ (.tmp 15) = Value.int IntKind.u16 (x.body.length : Int) := k1
        have e2 : ρ (Operand.const (Value.int IntKind.i64 2)) = (Value.int IntKind.i64 2) := k2
        clear k0 k1 k2
        refine Par.val_k fun K hK => ?_
        unfold Par.val
        refine Par.val_call Tryz.func106 (by kernel_rfl) rfl e0 ?_
        simp only [List.map_toArray, List.map_cons, List.map_nil, e1, e2]
        refine (nb_any x.body.length (by omega) _).mono ?_
        rintro e w2 ⟨r, rfl, hr, hx2⟩
        exact ⟨_, rfl, hK _ _ ⟨ParB.XI_other (i0 := 8) (i := 7) (by decide) (hx2), .inr hr.byt⟩⟩
      refine ⟨⟨fun _ _ _ => trivial, fun L ρ w' hX hL hG hk => ?_⟩, ?_⟩
      · obtain ⟨k0, k1, -⟩ := hk
        have e0 : (fun L v w' => L 8 = true ∨ Own w' W.heap.size 5 v [x.kind]) L (ρ (.tmp 11)) w' := k0
        have e1 : (fun L v w' => L 8 = true ∨ Byt w' v [UInt8.ofNat (x.body.length % 256), UInt8.ofNat (x.body.length / 256 % 256)]) L (ρ (.tmp 16)) w' := k1
        clear k0 k1
        refine Par.val_k fun K hK => ?_
        unfold Par.val
        (have ho := e0.resolve_left (by simp [hL]); have hby := e1.resolve_left (by simp [hL]); obtain ⟨ao2, cap2, w2, hr, ho2, hg2, hb2⟩ := run_append_byt (P := Tryz.prog) W.heap.size 35 35 5 Tryz.underlying35 info5 ho hby (by simp) hX.size; refine Par.val_append hr (hK _ _ ⟨ParB.XI_same hb2, by simp [ParB.upd], ho2⟩))
      refine ⟨⟨fun _ _ _ => trivial, fun L ρ w' hX hL hG hk => ?_⟩, ?_⟩
      · obtain ⟨k0, -⟩ := hk
        have e0 : (fun L v w' => L 8 = true ∧ Own w' W.heap.size 5 v (hd x)) L (ρ (.tmp 17)) w' := k0
        clear k0
        refine Par.val_k fun K hK => ?_
        unfold Par.val
        (go_simp; exact hK _ _ ⟨ParB.XI_refl _ _ 9 _, by simp [ParB.upd, e0.1], e0.2⟩)
      trivial
    intro a' w' inv
    have hX := inv.ext
    have q9 : a'.tmps.getD 9 undef = Value.pointer (some ⟨w.heap.size, 0, none⟩) := inv.done 0 _ 9 rfl rfl rfl
    have q10 : a'.tmps.getD 10 undef = Value.int IntKind.u8 (x.kind.toNat : Int) := inv.done 1 _ 10 rfl rfl rfl
    have q11 : (fun L v w' => L 8 = true ∨ Own w' W.heap.size 5 v [x.kind]) (ParB.Lof (Array.replicate 10 true)) (a'.tmps.getD 11 undef) w' := inv.done 2 _ 11 rfl rfl rfl
    have q12 : a'.tmps.getD 12 undef = Value.pointer (some ⟨w.heap.size, 1, none⟩) := inv.done 3 _ 12 rfl rfl rfl
    have q13 : a'.tmps.getD 13 undef = Value.slice ao x.body.length cap := inv.done 4 _ 13 rfl rfl rfl
    have q14 : a'.tmps.getD 14 undef = Value.int IntKind.i64 (x.body.length : Int) := inv.done 5 _ 14 rfl rfl rfl
    have q15 : a'.tmps.getD 15 undef = Value.int IntKind.u16 (x.body.length : Int) := inv.done 6 _ 15 rfl rfl rfl
    have q16 : (fun L v w' => L 8 = true ∨ Byt w' v [UInt8.ofNat (x.body.length % 256), UInt8.ofNat (x.body.length / 256 % 256)]) (ParB.Lof (Array.replicate 10 true)) (a'.tmps.getD 16 undef) w' := inv.done 7 _ 16 rfl rfl rfl
    have q17 : (fun L v w' => L 8 = true ∧ Own w' W.heap.size 5 v (hd x)) (ParB.Lof (Array.replicate 10 true)) (a'.tmps.getD 17 undef) w' := inv.done 8 _ 17 rfl rfl rfl
    have q4 : (fun L v w' => L 8 = true ∧ Own w' W.heap.size 5 v (hd x)) (ParB.Lof (Array.replicate 10 true)) (a'.tmps.getD 4 undef) w' := inv.done 9 _ 4 rfl rfl rfl
    clear inv
    simp only [List.filterMap_cons, List.filterMap_nil, Par.putAll, Act.put, List.setIfInBounds_toArray, List.set_cons_succ, List.set_cons_zero, q9, q10, q12, q13, q14, q15]
    clear q9 q10 q12 q13 q14 q15
    generalize a'.tmps.getD 11 undef = u11 at *
    generalize a'.tmps.getD 16 undef = u16 at *
    generalize a'.tmps.getD 17 undef = u17 at *
    generalize a'.tmps.getD 4 undef = u4 at *
    clear a'
    have HO := hid q4.2
    have hX1 := hX
    clear q11 q16 hX q17 q4
    obtain ⟨W2, rfl⟩ : ∃ W2 : World, W2 = w' := ⟨_, rfl⟩
    go_wp2_with fail
    refine ParB.wp_region_par (l := [_, _, _, _, _, _, _, _]) rfl Ext (ParB.XI 5 (World.heap W2).size) (ParB.VLB [ParB.EQ (u4), (fun L v w' => L 5 = true ∨ Own w' W2.heap.size 5 v (put (hd x))), ParB.EQ (Value.pointer (some ⟨w.heap.size, 1, none⟩)), ParB.EQ (Value.slice ao x.body.length cap), (fun L v w' => L 5 = true ∨ Byt w' v (put x.body)), (fun L v w' => L 5 = true ∧ Own w' W2.heap.size 5 v (fbytes x)), (fun L v w' => L 5 = true ∧ Own w' W2.heap.size 5 v (fbytes x)), ParB.EQ (Value.int IntKind.i64 0)]) (by kernel_rfl) (ParB.XI_refl _ _) ParB.XI_trans (Ext.draw _) (ParB.stab_mk 4 (by kernel_rfl) ?_ ?_) ?_ ?_
    · simp only [List.forall_mem_cons, List.not_mem_nil, false_implies, implies_true, and_true]
      refine ⟨fun _ _ _ _ _ _ h => h, fun i L v a b k hh => hh.imp (fun e => by simp [ParB.upd, e]) (fun q => q.ext k), fun _ _ _ _ _ _ h => h, fun _ _ _ _ _ _ h => h, fun i L v a b k hh => hh.imp (fun e => by simp [ParB.upd, e]) (fun q => q.ext k), fun i L v a b k hh => ⟨by simp [ParB.upd, hh.1], hh.2.ext k⟩, fun i L v a b k hh => ⟨by simp [ParB.upd, hh.1], hh.2.ext k⟩, fun _ _ _ _ _ _ h => h⟩
    · simp only [List.set_cons_succ, List.set_cons_zero, List.forall_mem_cons, List.not_mem_nil, false_implies, implies_true, and_true, true_and]
      refine ⟨fun _ _ _ _ _ _ h => h, fun L v a b hL k hh => .inl (by simp [ParB.upd]), fun _ _ _ _ _ _ h => h, fun _ _ _ _ _ _ h => h, fun L v a b hL k hh => .inl (by simp [ParB.upd]), fun L v a b hL k hh => absurd hh.1 (by simp [hL]), fun _ _ _ _ _ _ h => h⟩
    · refine ⟨⟨fun _ _ _ => trivial, fun L ρ w' hX hL hG hk => ?_⟩, ?_⟩
      · obtain ⟨k0, -⟩ := hk
        have e0 : ρ (.tmp 4) = u4 := k0
        clear k0
        refine Par.val_k fun K hK => ?_
        unfold Par.val
        (go_simp; exact hK _ _ ⟨ParB.XI_refl _ _ 0 _, rfl⟩)
      refine ⟨⟨fun _ _ _ => trivial, fun L ρ w' hX hL hG hk => ?_⟩, ?_⟩
      · obtain ⟨k0, k1, -⟩ := hk
        have e0 := k0
        have e1 : ρ (.tmp 18) = u4 := k1
        clear k0 k1
        refine Par.val_k fun K hK => ?_
        unfold Par.val
        refine Par.val_call Tryz.func107 (by kernel_rfl) rfl e0 ?_
        simp only [List.map_toArray, List.map_cons, List.map_nil, e1]
        refine (put_any _ _ _ (HO.out.ext hX).byt (by simp [hd])).mono ?_
        rintro e w2 ⟨r, rfl, hr, hx2⟩
        exact ⟨_, rfl, hK _ _ ⟨ParB.XI_other (i0 := 5) (i := 1) (by decide) (hx2), .inr (hr.mono hX.size)⟩⟩
      refine ⟨⟨fun _ _ _ => trivial, fun L ρ w' hX hL hG hk => ?_⟩, ?_⟩
      · obtain ⟨k0, -⟩ := hk
        have e0 : ρ (.tmp 1) = Value.pointer (some ⟨w.heap.size, 0, none⟩) := k0
        clear k0
        refine Par.val_k fun K hK => ?_
        unfold Par.val
        (go_simp; exact hK _ _ ⟨ParB.XI_refl _ _ 2 _, rfl⟩)
      refine ⟨⟨fun _ _ _ => trivial, fun L ρ w' hX hL hG hk => ?_⟩, ?_⟩
      · obtain ⟨k0, -⟩ := hk
        have e0 : ρ (.tmp 20) = Value.pointer (some ⟨w.heap.size, 1, none⟩) := k0
        clear k0
        refine Par.val_k fun K hK => ?_
        unfold Par.val
        (have c := hX.cell (hX1.cell C1.out); go_simp; exact hK _ _ ⟨ParB.XI_refl _ _ 3 _, rfl⟩)
      refine ⟨⟨fun _ _ _ => trivial, fun L ρ w' hX hL hG hk => ?_⟩, ?_⟩
      · obtain ⟨k0, k1, -⟩ := hk
        have e0 := k0
        have e1 : ρ (.tmp 21) = Value.slice ao x.body.length cap := k1
        clear k0 k1
        refine Par.val_k fun K hK => ?_
        unfold Par.val
        refine Par.val_call Tryz.func107 (by kernel_rfl) rfl e0 ?_
        simp only [List.map_toArray, List.map_cons, List.map_nil, e1]
        refine (put_any _ x.body _ (HB.out.ext (HE.out.trans (hX1.trans hX))) (by omega)).mono ?_
        rintro e w2 ⟨r, rfl, hr, hx2⟩
        exact ⟨_, rfl, hK _ _ ⟨ParB.XI_other (i0 := 5) (i := 4) (by decide) (hx2), .inr hr.byt⟩⟩
      refine ⟨⟨fun _ _ _ => trivial, fun L ρ w' hX hL hG hk => ?_⟩, ?_⟩
      · obtain ⟨k0, k1, -⟩ := hk
        have e0 : (fun L v w' => L 5 = true ∨ Own w' W2.heap.size 5 v (put (hd x))) L (ρ (.tmp 19)) w' := k0
        have e1 : (fun L v w' => L 5 = true ∨ Byt w' v (put x.body)) L (ρ (.tmp 22)) w' := k1
        clear k0 k1
        refine Par.val_k fun K hK => ?_
        unfold Par.val
        (have ho := e0.resolve_left (by simp [hL]); have hby := e1.resolve_left (by simp [hL]); obtain ⟨ao2, cap2, w2, hr, ho2, hg2, hb2⟩ := run_append_byt (P := Tryz.prog) W2.heap.size 35 35 5 Tryz.underlying35 info5 ho hby (by simp [put_length, hd]; omega) hX.size; refine Par.val_append hr (hK _ _ ⟨ParB.XI_same hb2, by simp [ParB.upd], ho2⟩))
      refine ⟨⟨fun _ _ _ => trivial, fun L ρ w' hX hL hG hk => ?_⟩, ?_⟩
      · obtain ⟨k0, -⟩ := hk
        have e0 : (fun L v w' => L 5 = true ∧ Own w' W2.heap.size 5 v (fbytes x)) L (ρ (.tmp 23)) w' := k0
        clear k0
        refine Par.val_k fun K hK => ?_
        unfold Par.val
        (go_simp; exact hK _ _ ⟨ParB.XI_refl _ _ 6 _, by simp [ParB.upd, e0.1], e0.2⟩)
      refine ⟨⟨fun _ _ _ => trivial, fun L ρ w' hX hL hG hk => ?_⟩, ?_⟩
      · obtain ⟨k0, -⟩ := hk
        have e0 : ρ (Operand.const (Value.int IntKind.i64 0)) = (Value.int IntKind.i64 0) := k0
        clear k0
        refine Par.val_k fun K hK => ?_
        unfold Par.val
        (go_simp; exact hK _ _ ⟨ParB.XI_refl _ _ 7 _, rfl⟩)
      trivial
    intro a' w' inv
    have hX := inv.ext
    have q18 : a'.tmps.getD 18 undef = u4 := inv.done 0 _ 18 rfl rfl rfl
    have q19 : (fun L v w' => L 5 = true ∨ Own w' W2.heap.size 5 v (put (hd x))) (ParB.Lof (Array.replicate 8 true)) (a'.tmps.getD 19 undef) w' := inv.done 1 _ 19 rfl rfl rfl
    have q20 : a'.tmps.getD 20 undef = Value.pointer (some ⟨w.heap.size, 1, none⟩) := inv.done 2 _ 20 rfl rfl rfl
    have q21 : a'.tmps.getD 21 undef = Value.slice ao x.body.length cap := inv.done 3 _ 21 rfl rfl rfl
    have q22 : (fun L v w' => L 5 = true ∨ Byt w' v (put x.body)) (ParB.Lof (Array.replicate 8 true)) (a'.tmps.getD 22 undef) w' := inv.done 4 _ 22 rfl rfl rfl
    have q23 : (fun L v w' => L 5 = true ∧ Own w' W2.heap.size 5 v (fbytes x)) (ParB.Lof (Array.replicate 8 true)) (a'.tmps.getD 23 undef) w' := inv.done 5 _ 23 rfl rfl rfl
    have q2 : (fun L v w' => L 5 = true ∧ Own w' W2.heap.size 5 v (fbytes x)) (ParB.Lof (Array.replicate 8 true)) (a'.tmps.getD 2 undef) w' := inv.done 6 _ 2 rfl rfl rfl
    have q3 : a'.tmps.getD 3 undef = Value.int IntKind.i64 0 := inv.done 7 _ 3 rfl rfl rfl
    clear inv
    simp only [List.filterMap_cons, List.filterMap_nil, Par.putAll, Act.put, List.setIfInBounds_toArray, List.set_cons_succ, List.set_cons_zero, q18, q20, q21, q3]
    clear q18 q20 q21 q3
    generalize a'.tmps.getD 19 undef = u19 at *
    generalize a'.tmps.getD 22 undef = u22 at *
    generalize a'.tmps.getD 23 undef = u23 at *
    generalize a'.tmps.getD 2 undef = u2 at *
    clear a'
    go_wp2
    go_ret2
    unfold fbytesR
    rw [if_neg h4]
    exact ⟨_, rfl, q2.2.mono (Nat.le_trans HE.out.size hX1.size), HE.out.trans (hX1.trans hX)⟩
end Go.Proofs.YtinancnlangkjaaGreatDoor

set_option maxRecDepth 100000
namespace Go.Proofs.YtinancnlangkjaaGreatDoor
open Go.RowKit Go.Tum Go.Tum.Crc

theorem i64_or_nat (a b : Nat) (ha : a < 9223372036854775808) (hb : b < 9223372036854775808) : bits .or .i64 (a : Int) (b : Int) = ((a ||| b : Nat) : Int) := by
  have hx : a ||| b < 2 ^ 63 := Nat.or_lt_two_pow (by omega) (by omega)
  show IntKind.i64.wrap ((BitVec.ofInt 64 (a : Int) ||| BitVec.ofInt 64 (b : Int)).toNat : Int) = _
  have e : ∀ a : Nat, a < 9223372036854775808 → (BitVec.ofInt 64 (a : Int)).toNat = a := fun a ha => by
    rw [BitVec.ofInt_natCast, BitVec.toNat_ofNat]; exact Nat.mod_eq_of_lt (by omega)
  rw [BitVec.toNat_or, e a ha, e b hb, IntKind.wrap_i64]
  omega
theorem or_two (a b : UInt8) : bits .or .i64 (bits .or .i64 0 (a.toNat : Int)) ((b.toNat : Int) * 256) = ((a.toNat + 256 * b.toNat : Nat) : Int) := by
  have ha := a.toNat_lt
  have hb := b.toNat_lt
  have e1 := i64_or_nat 0 a.toNat (by omega) (by omega)
  rw [Nat.zero_or] at e1
  have e2 : ((b.toNat : Int) * 256) = ((256 * b.toNat : Nat) : Int) := by omega
  rw [show ((0 : Int)) = ((0 : Nat) : Int) from rfl, e1, e2, i64_or_nat _ _ (by omega) (by omega), Nat.or_comm, nat_join 8 _ _ (by omega) ha, Nat.add_comm]

theorem ret_val {k : IntKind} {a b : Int} (h : a = b) : Ending.returned (.int k a) = .returned (.int k b) := by rw [h]

set_option maxRecDepth 100000 in
theorem number_any (v : Value) (a b : UInt8) (w : World) (hb : Byt w v [a, b]) :
    Calls Tryz.prog 114 #[v] w fun e w' => e = .returned (.int .i64 ((a.toNat + 256 * b.toNat : Nat) : Int)) ∧ w = w' := by
  obtain ⟨ao, cap, rfl, hle, hm, hnn, hcell⟩ := hb.open
  obtain ⟨p, rfl⟩ := hnn (by simp at hle; omega)
  have c0 : w.cell? p = some (.int .u8 (a.toNat : Int)) := hcell p rfl 0 (by simp)
  have c1 : w.cell? ⟨p.block, p.off + 1, none⟩ = some (.int .u8 (b.toNat : Int)) := hcell p rfl 1 (by simp)
  have ha := a.toNat_lt
  have hb' := b.toNat_lt
  clear hcell hnn hb
  go_enter Tryz.func114, Tryz.ntmps114
  go_wp2
  refine wp_loop_rounds 3 ?_
  rw [rounds_succ]
  go_wp2
  rw [rounds_succ]
  go_wp2
  rw [rounds_succ]
  go_wp2
  go_ret
  exact ⟨ret_val (or_two a b), rfl⟩

theorem cut_isPut {l : List UInt8} (h : isPut l = true) : Crc.cut l = l.take (l.length - 4) := by unfold Crc.cut; rw [if_pos h]
theorem cut_not {l : List UInt8} (h : isPut l = false) : Crc.cut l = [] := by unfold Crc.cut; rw [h]; rfl
theorem take3 (b : List UInt8) (h : 7 ≤ b.length) : (b.take 7).take ((b.take 7).length - 4) = [b.getD 0 0, b.getD 1 0, b.getD 2 0] := by
  match b, h with
  | x :: y :: z :: _ :: _ :: _ :: _ :: r, _ => simp

theorem blk2 {w : World} {b : Nat} {p q : Value} {ty : TypeId} (h : w.heap[b]? = some (.cells #[p, q] ty (0, 0))) :
    w.cell? ⟨b, 0, none⟩ = some p ∧ w.cell? ⟨b, 1, none⟩ = some q ∧ w.frozen? ⟨b, 0, none⟩ = false ∧ w.frozen? ⟨b, 1, none⟩ = false := by
  refine ⟨by rw [cell_of_row _ _ _ _ _ _ h]; rfl, by rw [cell_of_row _ _ _ _ _ _ h]; rfl, by simp [World.frozen?, h], by simp [World.frozen?, h]⟩
theorem own_setLow {w : World} {b e : Nat} {v : Value} {l : List UInt8} (h : Own w b e v l) (a : Addr) (u : Value) (ha : a.block < b) : Own (w.setCell a u) b e v l := by
  refine ⟨h.1, ?_⟩
  rcases h.2 with hn | ⟨g', cap', cur, hv, hb, hgg, rest⟩
  · exact .inl hn
  · exact .inr ⟨g', cap', cur, hv, hb, by rw [heap_setCell_other _ _ _ _ (by omega)]; exact hgg, rest⟩

theorem ret_fr {x : Value} {n m e : Int} (h : n = m) : Ending.returned (.tuple #[x, .int .i64 n, .int .i64 e]) = .returned (.tuple #[x, .int .i64 m, .int .i64 e]) := by rw [h]

theorem read_results (tmps : Array Value) (w : World) (B : Nat) (p q : Value) (h2 : tmps.getD 2 undef = .pointer (some ⟨B, 0, none⟩)) (m0 : w.cell? ⟨B, 0, none⟩ = some p) (m1 : w.cell? ⟨B, 1, none⟩ = some q) :
    (results Tryz.f93 tmps).run Tryz.prog w = .ok (.tuple #[.agg #[p, q], tmps.getD 3 undef, tmps.getD 4 undef]) w := by
  have h2' : tmps[2]?.getD undef = .pointer (some ⟨B, 0, none⟩) := by simpa using h2
  simp [results, Tryz.results93, go_sem, h2', m0, m1]

/-- What Read answers. -/
def ReadR (T : Nat) (w : World) (b : List UInt8) (e : Ending) (w' : World) : Prop :=
  ∃ r, e = .returned (.tuple #[fv (fread b).1 r, .int .i64 ((fread b).2.1 : Nat), .int .i64 (fread b).2.2]) ∧ Own w' w.heap.size T r (fread b).1.body ∧ Ext w w'

set_option maxRecDepth 100000 in
set_option maxHeartbeats 1000000 in
theorem read_any (v : Value) (b : List UInt8) (w : World) (hb : Byt w v b) (hl : b.length ≤ 1048576) :
    Calls Tryz.prog 93 #[v] w (ReadR 5 w b) := by
  obtain ⟨ao, cap, rfl, hle, hm, hnn, hcell⟩ := hb.open
  have HN := hid hnn
  clear hcell hnn
  have HB := hid hb
  clear hb
  by_cases h7 : b.length < 7
  · have hdec : decide ((b.length : Int) < 7) = true := by simp; omega
    have hR : fread b = (f0, 0, 3) := by unfold fread; rw [if_pos h7]
    have HR := hid hR
    clear hR
    go_enter Tryz.func93, Tryz.ntmps93
    go_wp2
    go_returns
    unfold ReadR
    rw [HR.out]
    exact ⟨.slice none 0 0, rfl, Own.nil _ _ _, by (repeat' (first | (with_reducible exact Below.refl _ _) | (with_reducible assumption) | (with_reducible refine Below.alloc ?_ ?_ _) | (with_reducible refine Below.drew ?_) | (with_reducible refine Below.setCell ?_ ?_ _) | (refine Go.Tum.Ext.trans ?_ (by with_reducible assumption)) | go_size))⟩
  have hdec : decide ((b.length : Int) < 7) = false := by simp; omega
  have hp1 : Byt w (.slice ao 7 cap) (b.take 7) := by
    have := Byt.part HB.out 0 7 (by omega) (by omega) ao (by split <;> simp [Addr.add])
    simpa using this
  have HP1 := hid hp1
  clear hp1
  by_cases h1 : isPut (b.take 7) = false
  · have hR : fread b = (f0, 0, 8) := by unfold fread; rw [if_neg h7, if_pos h1]
    have HR := hid hR
    have H1 := hid h1
    clear hR h1
    go_enter Tryz.func93, Tryz.ntmps93
    go_wp2_with fail
    refine (cut_any _ (b.take 7) _ (HP1.out.ext (Ext.alloc _ _)) (by simp; omega)).mono ?_
    rintro e w1 ⟨r, rfl, hr, hw1⟩
    rw [H1.out]
    have hE : Ext w w1 := (Ext.alloc _ _).trans hw1
    have hB := hw1.obj (heap_alloc_new w _)
    have HSZ := hid hw1.size
    have hsz : w.heap.size < w1.heap.size := by have := hw1.size; simp at this; omega
    clear hw1
    clear hr
    obtain ⟨k0, k1, k2, k3⟩ := blk2 hB
    have hB2 := Go.Joins.block_setCell (i := 1) (Go.Joins.block_setCell (i := 0) hB (.int .u8 0)) (.slice none 0 0)
    clear hB
    go_wp2
    obtain ⟨m0, m1, -, -⟩ := blk2 hB2
    refine bodyPost_ret (read_results _ _ _ _ _ rfl m0 m1) rfl ?_
    unfold ReadR
    rw [HR.out]
    exact ⟨.slice none 0 0, rfl, Own.nil _ _ _, by (repeat' (first | (with_reducible exact Below.refl _ _) | (with_reducible assumption) | (with_reducible refine Below.alloc ?_ ?_ _) | (with_reducible refine Below.drew ?_) | (with_reducible refine Below.setCell ?_ ?_ _) | (refine Go.Tum.Ext.trans ?_ (by with_reducible assumption)) | go_size))⟩
  have h1' : isPut (b.take 7) = true := by simpa using h1
  have H1 := hid h1'
  have hcut := cut_isPut h1'
  rw [take3 b (by omega)] at hcut
  obtain ⟨x0, hx0⟩ : ∃ x, b.getD 0 0 = x := ⟨_, rfl⟩
  obtain ⟨x1, hx1⟩ : ∃ x, b.getD 1 0 = x := ⟨_, rfl⟩
  obtain ⟨x2, hx2⟩ : ∃ x, b.getD 2 0 = x := ⟨_, rfl⟩
  rw [hx0, hx1, hx2] at hcut
  have hfl : ((x1.toNat + 256 * x2.toNat : Nat) : Int) = (flen b : Int) := by rw [← hx1, ← hx2]; rfl
  have HFL := hid hfl
  have HX0 := hid hx0
  have HCUT := hid hcut
  have hn2 : flen b ≤ 65535 := by unfold flen; have := (b.getD 1 0).toNat_lt; have := (b.getD 2 0).toNat_lt; omega
  clear h1' hcut hx0 hx1 hx2 hfl
  by_cases h4 : 400 < flen b
  · have hR : fread b = (f0, 0, 2) := by unfold fread; rw [if_neg h7, if_neg h1, if_pos h4]
    have HR := hid hR
    have hd4 : decide (400 < (flen b : Int)) = true := by simp; omega
    clear hR h1
    go_enter Tryz.func93, Tryz.ntmps93
    go_wp2_with fail
    refine (cut_any _ (b.take 7) _ (HP1.out.ext (Ext.alloc _ _)) (by simp; omega)).mono ?_
    rintro e w1 ⟨r, rfl, hr, hw1⟩
    rw [H1.out]
    have hE : Ext w w1 := (Ext.alloc _ _).trans hw1
    have hB := hw1.obj (heap_alloc_new w _)
    have HSZ := hid hw1.size
    have hsz : w.heap.size < w1.heap.size := by have := hw1.size; simp at this; omega
    clear hw1
    rw [HCUT.out] at hr
    obtain ⟨ro, rc, rfl, hrl, hrm, hrn, hrcell⟩ := hr.byt.open
    have c0 : ∀ a, ro = some a → w1.cell? a = some (.int .u8 (x0.toNat : Int)) := fun a ha => hrcell a ha 0 (by simp)
    obtain ⟨ra, rfl⟩ := hrn (by simp at hrl; omega)
    replace c0 := c0 ra rfl
    simp only [List.length_cons, List.length_nil] at hrl
    have hrl' : 3 ≤ rc := by omega
    have hpn : Byt w1 (.slice (some ⟨ra.block, ra.off + 1, none⟩) 2 (rc - 1)) [x1, x2] := by
      have := Byt.part hr.byt 1 3 (by omega) (by simp) (some ⟨ra.block, ra.off + 1, none⟩) (by rw [if_neg (by omega)]; simp [Addr.add])
      exact this
    have HRO := hid hr
    have HPN := hid hpn
    clear hrcell hrn hpn hr hrl
    go_wp2_with fail
    refine (number_any _ x1 x2 _ HPN.out).mono ?_
    rintro e w9 ⟨rfl, rfl⟩
    rw [HFL.out]
    obtain ⟨k0, k1, k2, k3⟩ := blk2 hB
    have hB2 := Go.Joins.block_setCell (i := 1) (Go.Joins.block_setCell (i := 0) hB (.int .u8 0)) (.slice none 0 0)
    clear hB
    go_wp2
    obtain ⟨m0, m1, -, -⟩ := blk2 hB2
    refine bodyPost_ret (read_results _ _ _ _ _ rfl m0 m1) rfl ?_
    unfold ReadR
    rw [HR.out]
    exact ⟨.slice none 0 0, rfl, Own.nil _ _ _, by (repeat' (first | (with_reducible exact Below.refl _ _) | (with_reducible assumption) | (with_reducible refine Below.alloc ?_ ?_ _) | (with_reducible refine Below.drew ?_) | (with_reducible refine Below.setCell ?_ ?_ _) | (refine Go.Tum.Ext.trans ?_ (by with_reducible assumption)) | go_size))⟩
  have hd4 : decide (400 < (flen b : Int)) = false := by simp; omega
  by_cases h5 : b.length < flen b + 11
  · have hR : fread b = (f0, 0, 3) := by unfold fread; rw [if_neg h7, if_neg h1, if_neg h4, if_pos h5]
    have HR := hid hR
    have hd5 : decide ((b.length : Int) < 7 + (flen b : Int) + 4) = true := by simp; omega
    clear hR h1
    go_enter Tryz.func93, Tryz.ntmps93
    go_wp2_with fail
    refine (cut_any _ (b.take 7) _ (HP1.out.ext (Ext.alloc _ _)) (by simp; omega)).mono ?_
    rintro e w1 ⟨r, rfl, hr, hw1⟩
    rw [H1.out]
    have hE : Ext w w1 := (Ext.alloc _ _).trans hw1
    have hB := hw1.obj (heap_alloc_new w _)
    have HSZ := hid hw1.size
    have hsz : w.heap.size < w1.heap.size := by have := hw1.size; simp at this; omega
    clear hw1
    rw [HCUT.out] at hr
    obtain ⟨ro, rc, rfl, hrl, hrm, hrn, hrcell⟩ := hr.byt.open
    have c0 : ∀ a, ro = some a → w1.cell? a = some (.int .u8 (x0.toNat : Int)) := fun a ha => hrcell a ha 0 (by simp)
    obtain ⟨ra, rfl⟩ := hrn (by simp at hrl; omega)
    replace c0 := c0 ra rfl
    simp only [List.length_cons, List.length_nil] at hrl
    have hrl' : 3 ≤ rc := by omega
    have hpn : Byt w1 (.slice (some ⟨ra.block, ra.off + 1, none⟩) 2 (rc - 1)) [x1, x2] := by
      have := Byt.part hr.byt 1 3 (by omega) (by simp) (some ⟨ra.block, ra.off + 1, none⟩) (by rw [if_neg (by omega)]; simp [Addr.add])
      exact this
    have HRO := hid hr
    have HPN := hid hpn
    clear hrcell hrn hpn hr hrl
    go_wp2_with fail
    refine (number_any _ x1 x2 _ HPN.out).mono ?_
    rintro e w9 ⟨rfl, rfl⟩
    rw [HFL.out]
    obtain ⟨k0, k1, k2, k3⟩ := blk2 hB
    have hB2 := Go.Joins.block_setCell (i := 1) (Go.Joins.block_setCell (i := 0) hB (.int .u8 0)) (.slice none 0 0)
    clear hB
    go_wp2
    obtain ⟨m0, m1, -, -⟩ := blk2 hB2
    refine bodyPost_ret (read_results _ _ _ _ _ rfl m0 m1) rfl ?_
    unfold ReadR
    rw [HR.out]
    exact ⟨.slice none 0 0, rfl, Own.nil _ _ _, by (repeat' (first | (with_reducible exact Below.refl _ _) | (with_reducible assumption) | (with_reducible refine Below.alloc ?_ ?_ _) | (with_reducible refine Below.drew ?_) | (with_reducible refine Below.setCell ?_ ?_ _) | (refine Go.Tum.Ext.trans ?_ (by with_reducible assumption)) | go_size))⟩
  have hd5 : decide ((b.length : Int) < 7 + (flen b : Int) + 4) = false := by simp; omega
  obtain ⟨ap, rfl⟩ := HN.out (by omega)
  have hp2 : Byt w (.slice (some ⟨ap.block, ap.off + 7, none⟩) (7 + flen b - 3) (cap - 7)) ((b.drop 7).take (flen b + 4)) := by
    have h := Byt.part HB.out 7 (flen b + 11) (by omega) (by omega) (some ⟨ap.block, ap.off + 7, none⟩) (by rw [if_neg (by omega)]; simp [Addr.add])
    rw [show flen b + 11 - 7 = flen b + 4 by omega] at h
    rw [show 7 + flen b - 3 = flen b + 4 by omega]
    exact h
  have HP2 := hid hp2
  clear hp2
  cases h6 : isPut ((b.drop 7).take (flen b + 4)) with
  | false =>
    have hR : fread b = (f0, 0, 8) := by unfold fread; rw [if_neg h7, if_neg h1, if_neg h4, if_neg h5, if_pos h6]
    have HR := hid hR
    have H6 := hid h6
    clear hR h1 h6
    go_enter Tryz.func93, Tryz.ntmps93
    go_wp2_with fail
    refine (cut_any _ (b.take 7) _ (HP1.out.ext (Ext.alloc _ _)) (by simp; omega)).mono ?_
    rintro e w1 ⟨r, rfl, hr, hw1⟩
    rw [H1.out]
    have hE : Ext w w1 := (Ext.alloc _ _).trans hw1
    have hB := hw1.obj (heap_alloc_new w _)
    have HSZ := hid hw1.size
    have hsz : w.heap.size < w1.heap.size := by have := hw1.size; simp at this; omega
    clear hw1
    rw [HCUT.out] at hr
    obtain ⟨ro, rc, rfl, hrl, hrm, hrn, hrcell⟩ := hr.byt.open
    have c0 : ∀ a, ro = some a → w1.cell? a = some (.int .u8 (x0.toNat : Int)) := fun a ha => hrcell a ha 0 (by simp)
    obtain ⟨ra, rfl⟩ := hrn (by simp at hrl; omega)
    replace c0 := c0 ra rfl
    simp only [List.length_cons, List.length_nil] at hrl
    have hrl' : 3 ≤ rc := by omega
    have hpn : Byt w1 (.slice (some ⟨ra.block, ra.off + 1, none⟩) 2 (rc - 1)) [x1, x2] := by
      have := Byt.part hr.byt 1 3 (by omega) (by simp) (some ⟨ra.block, ra.off + 1, none⟩) (by rw [if_neg (by omega)]; simp [Addr.add])
      exact this
    have HRO := hid hr
    have HPN := hid hpn
    clear hrcell hrn hpn hr hrl
    go_wp2_with fail
    refine (number_any _ x1 x2 _ HPN.out).mono ?_
    rintro e w9 ⟨rfl, rfl⟩
    rw [HFL.out]
    have hI : (flen b : Int) + 11 ≤ b.length := by omega
    have hI2 : (flen b : Int) + 11 ≤ cap := by omega
    have hI3 : 7 + (flen b : Int) + 4 ≤ b.length := by omega
    go_wp2_with fail
    refine (cut_any _ _ _ (HP2.out.ext hE) (by simp; omega)).mono ?_
    rintro e w2 ⟨r2, rfl, hr2, hw2⟩
    rw [H6.out]
    replace hB := hw2.obj hB
    obtain ⟨k0, k1, k2, k3⟩ := blk2 hB
    have hE2 := hE.trans hw2
    have hsz2 := hw2.size
    have hB2 := Go.Joins.block_setCell (i := 1) (Go.Joins.block_setCell (i := 0) hB (.int .u8 0)) (.slice none 0 0)
    clear hB
    go_wp2
    obtain ⟨m0, m1, -, -⟩ := blk2 hB2
    refine bodyPost_ret (read_results _ _ _ _ _ rfl m0 m1) rfl ?_
    unfold ReadR
    rw [HR.out]
    exact ⟨.slice none 0 0, rfl, Own.nil _ _ _, by (repeat' (first | (with_reducible exact Below.refl _ _) | (with_reducible assumption) | (with_reducible refine Below.alloc ?_ ?_ _) | (with_reducible refine Below.drew ?_) | (with_reducible refine Below.setCell ?_ ?_ _) | (refine Go.Tum.Ext.trans ?_ (by with_reducible assumption)) | go_size))⟩
  | true =>
    have hR : fread b = (⟨x0, (b.drop 7).take (flen b)⟩, flen b + 11, 0) := by unfold fread; rw [if_neg h7, if_neg h1, if_neg h4, if_neg h5, if_neg (by rw [h6]; decide), HX0.out]
    have hcut2 : Crc.cut ((b.drop 7).take (flen b + 4)) = (b.drop 7).take (flen b) := by
      rw [cut_isPut h6, List.take_take]
      congr 1
      simp; omega
    obtain ⟨bd, hbd⟩ : ∃ x, (b.drop 7).take (flen b) = x := ⟨_, rfl⟩
    rw [hbd] at hcut2 hR
    have HCUT2 := hid hcut2
    clear hcut2 hbd
    have HR := hid hR
    have H6 := hid h6
    clear hR h1 h6
    go_enter Tryz.func93, Tryz.ntmps93
    go_wp2_with fail
    refine (cut_any _ (b.take 7) _ (HP1.out.ext (Ext.alloc _ _)) (by simp; omega)).mono ?_
    rintro e w1 ⟨r, rfl, hr, hw1⟩
    rw [H1.out]
    have hE : Ext w w1 := (Ext.alloc _ _).trans hw1
    have hB := hw1.obj (heap_alloc_new w _)
    have HSZ := hid hw1.size
    have hsz : w.heap.size < w1.heap.size := by have := hw1.size; simp at this; omega
    clear hw1
    rw [HCUT.out] at hr
    obtain ⟨ro, rc, rfl, hrl, hrm, hrn, hrcell⟩ := hr.byt.open
    have c0 : ∀ a, ro = some a → w1.cell? a = some (.int .u8 (x0.toNat : Int)) := fun a ha => hrcell a ha 0 (by simp)
    obtain ⟨ra, rfl⟩ := hrn (by simp at hrl; omega)
    replace c0 := c0 ra rfl
    simp only [List.length_cons, List.length_nil] at hrl
    have hrl' : 3 ≤ rc := by omega
    have hpn : Byt w1 (.slice (some ⟨ra.block, ra.off + 1, none⟩) 2 (rc - 1)) [x1, x2] := by
      have := Byt.part hr.byt 1 3 (by omega) (by simp) (some ⟨ra.block, ra.off + 1, none⟩) (by rw [if_neg (by omega)]; simp [Addr.add])
      exact this
    have HRO := hid hr
    have HPN := hid hpn
    clear hrcell hrn hpn hr hrl
    go_wp2_with fail
    refine (number_any _ x1 x2 _ HPN.out).mono ?_
    rintro e w9 ⟨rfl, rfl⟩
    rw [HFL.out]
    have hI : (flen b : Int) + 11 ≤ b.length := by omega
    have hI2 : (flen b : Int) + 11 ≤ cap := by omega
    have hI3 : 7 + (flen b : Int) + 4 ≤ b.length := by omega
    go_wp2_with fail
    refine (cut_any _ _ _ (HP2.out.ext hE) (by simp; omega)).mono ?_
    rintro e w2 ⟨r2, rfl, hr2, hw2⟩
    rw [H6.out]
    replace hB := hw2.obj hB
    obtain ⟨k0, k1, k2, k3⟩ := blk2 hB
    have hE2 := hE.trans hw2
    have hsz2 := hw2.size
    rw [HCUT2.out] at hr2
    obtain ⟨so, sc, rfl, -, -, -, -⟩ := hr2.byt.open
    replace c0 := hw2.cell c0
    have hr3 := own_setLow (own_setLow hr2 ⟨w.heap.size, 0, none⟩ (.int .u8 (x0.toNat : Int)) hsz) ⟨w.heap.size, 1, none⟩ (.slice so bd.length sc) hsz
    have hB2 := Go.Joins.block_setCell (i := 1) (Go.Joins.block_setCell (i := 0) hB (.int .u8 (x0.toNat : Int))) (.slice so bd.length sc)
    clear hB
    go_wp2
    obtain ⟨m0, m1, -, -⟩ := blk2 hB2
    refine bodyPost_ret (read_results _ _ _ _ _ rfl m0 m1) rfl ?_
    unfold ReadR
    rw [HR.out]
    exact ⟨_, ret_fr (by show 7 + (flen b : Int) + 4 = ((flen b + 11 : Nat) : Int); omega), hr3.mono (Nat.le_of_lt hsz), by (repeat' (first | (with_reducible exact Below.refl _ _) | (with_reducible assumption) | (with_reducible refine Below.alloc ?_ ?_ _) | (with_reducible refine Below.drew ?_) | (with_reducible refine Below.setCell ?_ ?_ _) | (refine Go.Tum.Ext.trans ?_ (by with_reducible assumption)) | go_size))⟩

end Go.Proofs.YtinancnlangkjaaGreatDoor

set_option maxRecDepth 100000
namespace Go.Proofs.YtinancnlangkjaaGreatDoor
open Go.RowKit Go.Tum Go.Tum.Vint

theorem info8 : (Tryz.prog.info? 5).map (fun i => (i.zero, i.size, i.bytes)) = some (some (.int .u8 0), 1, 1) := by kernel_rfl
theorem or128_all : ∀ x : Fin 256, x.val ||| 128 = 128 + x.val % 128 := by decide +kernel
theorem or128 (m : Nat) : bits .or .u8 ((m : Int) % 256) 128 = (((UInt8.ofNat (128 + m % 128)).toNat : Nat) : Int) := by
  have := u8_or_nat (m % 256) 128 (by omega) (by omega)
  rw [or128_all ⟨m % 256, by omega⟩] at this
  have e : 128 + m % 256 % 128 = (UInt8.ofNat (128 + m % 128)).toNat := by simp; omega
  rw [← e]; simpa using this

theorem buf_set (pre : List UInt8) (k : Nat) (c : UInt8) (h : pre.length = k) (hk : k ≤ 9) : (pre ++ List.replicate (10 - k) (0 : UInt8)).set k c = (pre ++ [c]) ++ List.replicate (10 - (k + 1)) 0 := by
  rw [List.set_append_right _ _ (by omega), h, Nat.sub_self, show 10 - k = (10 - (k + 1)) + 1 by omega, List.replicate_succ, List.set_cons_zero, List.append_assoc]
  rfl

theorem vput_any (x : Int) (n : Nat) (hx : x = n) (hn : n < 18446744073709551616) (w : World) :
    Calls Tryz.prog 105 #[.int .u64 x] w fun e w' => ∃ r, e = .returned r ∧ Byt w' r (vput n) ∧ Ext w w' := by
  subst hx
  have hmk : ∀ w, (Instr.makeSlice 35 (.int .i64 10) (.int .i64 10)).run Tryz.prog w = .ok (.slice (some ⟨w.heap.size, 0, none⟩) 10 10) (w.alloc (.cells (madeCells #[.int .u8 0] 10) 5)) :=
    fun w => run_make_row' 35 5 (.int .u8 0) 1 Tryz.underlying35 info8 rfl .i64 .i64 10 (by omega) (by omega) w
  have hz : (madeCells #[Value.int .u8 0] 10).toList = (List.replicate 10 (0 : UInt8)).map bv := by rw [toList_madeCells_one]; simp [bv]
  have HZ := hid hz
  clear hz
  go_enter Tryz.func105, Tryz.ntmps105
  go_wp2
  clear hmk
  go_loopw [0, 4] (fun v i wr => ∃ k : Nat, k ≤ 9 ∧ i = .int .i64 k ∧ (∃ m : Nat, m < 18446744073709551616 ∧ v = .int .u64 m ∧ ∃ pre : List UInt8, Hid (pre.length = k ∧ vputF 9 n = pre ++ vputF (9 - k) m ∧ m < 128 ^ (10 - k)) ∧
      Hid (Own wr w.heap.size 5 (.slice (some ⟨w.heap.size, 0, none⟩) 10 10) (pre ++ List.replicate (10 - k) 0))) ∧ Hid (Ext w wr)) (fun _ i _ => 9 - (intOf i).toNat)
  case atStart =>
    refine ⟨0, by omega, rfl, ⟨n, hn, rfl, [], ⟨rfl, rfl, Nat.lt_of_lt_of_le hn (by decide)⟩, ?_⟩, Ext.alloc _ _⟩
    exact own_of_heap (heap_alloc_new _ _) _ (Nat.le_refl _) _ HZ.out 10 rfl (by simp [maxLen])
  case round =>
    obtain ⟨k, hk, rfl, ⟨m, hm, rfl, pre, HP, HO⟩, HE⟩ := hrel
    by_cases h128 : m < 128
    · have hd : decide (128 ≤ (m : Int)) = false := by simp; omega
      have hjl : k < (pre ++ List.replicate (10 - k) (0 : UInt8)).length := by have := HP.out.1; simp; omega
      have hcg := HO.out.cell k hjl
      have hfg := HO.out.frozen k
      generalize (pre ++ List.replicate (10 - k) (0 : UInt8))[k] = c0 at hcg
      clear hjl
      go_wp2
      go_ret
      obtain ⟨hp1, hp2, hp3⟩ := HP.out
      have hset := HO.out.set k (m : Int) (UInt8.ofNat m) (by simp; omega)
      rw [buf_set pre k _ hp1 hk] at hset
      refine ⟨_, rfl, ?_, Below.setCell HE.out (by simp) _⟩
      have hv := Vec.take hset.owv.vec (k + 1) (by simp; omega)
      rw [List.take_left' (by simp; omega)] at hv
      have e : vput n = pre ++ [UInt8.ofNat m] := by unfold vput; rw [hp2, vputF_lt _ _ h128]
      rw [e]
      exact (Vec.cap hv (k + 1) (Nat.le_refl _) (by omega)).byt
    · have hd : decide (128 ≤ (m : Int)) = true := by simp; omega
      have hk8 : k ≤ 8 := by
        have := HP.out.2.2
        rcases Nat.lt_or_ge 8 k with h | h
        · obtain rfl : k = 9 := by omega
          have : m < 128 := by simpa using this
          omega
        · exact h
      have hjl : k < (pre ++ List.replicate (10 - k) (0 : UInt8)).length := by have := HP.out.1; simp; omega
      have hcg := HO.out.cell k hjl
      have hfg := HO.out.frozen k
      have hor := or128 m
      generalize (pre ++ List.replicate (10 - k) (0 : UInt8))[k] = c0 at hcg
      clear hjl h128
      go_wp2
      go_roundw
      case rel =>
        obtain ⟨hp1, hp2, hp3⟩ := HP.out
        have hset := HO.out.set k _ (UInt8.ofNat (128 + m % 128)) rfl
        rw [buf_set pre k _ hp1 hk] at hset
        have hmm : 128 ≤ m := by have := of_decide_eq_true hd; omega
        refine ⟨k + 1, by omega, by go_num, ⟨m / 128, by omega, by go_num, pre ++ [UInt8.ofNat (128 + m % 128)], ⟨by simp; omega, ?_, ?_⟩, hset⟩, Below.setCell HE.out (by simp) _⟩
        · rw [hp2, show 9 - k = (9 - (k + 1)) + 1 by omega, vputF_ge _ _ hmm]; simp
        · rw [show 10 - k = (10 - (k + 1)) + 1 by omega, Nat.pow_succ] at hp3; omega
      case measure => simp [intOf]; omega

/-- A shift by 7 k, as the walk has it, and the 'or' behind it. -/
theorem or_shift (acc c k : Nat) (ha : acc < 2 ^ (7 * k)) (hc : c < 128) (hk : k ≤ 9) (h9 : k = 9 → c ≤ 1) :
    bits .or .u64 (acc : Int) ((c * 2 ^ (7 * k) : Nat) : Int) = ((acc + c * 2 ^ (7 * k) : Nat) : Int) := by
  have hp : c * 2 ^ (7 * k) < 18446744073709551616 := by
    rcases Nat.lt_or_ge k 9 with h | h
    · have h2 : 2 ^ (7 * k) ≤ 2 ^ 56 := Nat.pow_le_pow_right (by decide) (by omega)
      have := Nat.mul_le_mul (show c ≤ 127 by omega) h2
      exact Nat.lt_of_le_of_lt this (by decide)
    · obtain rfl : k = 9 := by omega
      have := h9 rfl
      have h3 : 2 ^ (7 * 9) = 9223372036854775808 := by decide
      rw [h3]; omega
  have hq : acc < 18446744073709551616 := Nat.lt_of_lt_of_le ha (show 2 ^ (7 * k) ≤ 2 ^ 64 from Nat.pow_le_pow_right (by decide) (by omega))
  rw [u64_or_nat _ _ hq hp, Nat.or_comm, nat_join (7 * k) _ _ (Nat.mul_mod_left _ _) ha, Nat.add_comm]

theorem sum_in (acc c k : Nat) (ha : acc < 2 ^ (7 * k)) (hc : c < 128) (hk : k ≤ 9) (h9 : k = 9 → c ≤ 1) : acc + c * 2 ^ (7 * k) < 18446744073709551616 ∧ acc + c * 2 ^ (7 * k) < 2 ^ (7 * (k + 1)) := by
  have h2 : acc + c * 2 ^ (7 * k) < 2 ^ (7 * (k + 1)) := by
    rw [pow_step]
    generalize 2 ^ (7 * k) = p at *
    have := Nat.mul_le_mul_right p (show c ≤ 127 by omega)
    omega
  refine ⟨?_, h2⟩
  rcases Nat.lt_or_ge k 9 with h | h
  · exact Nat.lt_of_lt_of_le h2 (show 2 ^ (7 * (k + 1)) ≤ 2 ^ 64 from Nat.pow_le_pow_right (by decide) (by omega))
  · obtain rfl : k = 9 := by omega
    have := h9 rfl
    have h3 : 2 ^ (7 * 9) = 9223372036854775808 := by decide
    rw [h3] at ha ⊢; omega
theorem shl_in (c k : Nat) (hk : k ≤ 9) (h9 : k = 9 → c % 128 ≤ 1) : IntKind.u64.wrap ((c : Int) % 128 * 2 ^ (7 * k)) = ((c % 128 * 2 ^ (7 * k) : Nat) : Int) := by
  have := (sum_in 0 (c % 128) k (Nat.two_pow_pos _) (by omega) hk h9).1
  rw [Nat.zero_add] at this
  have e : (c : Int) % 128 * 2 ^ (7 * k) = ((c % 128 * 2 ^ (7 * k) : Nat) : Int) := by simp
  rw [e, IntKind.wrap_u64]
  omega

set_option maxRecDepth 100000 in
set_option maxHeartbeats 2000000 in
theorem vget_any (v : Value) (l : List UInt8) (w : World) (hb : Byt w v l) :
    Calls Tryz.prog 115 #[v] w fun e w' => e = .returned (.tuple #[.int .u64 ((vget l).1 : Nat), .int .i64 ((vget l).2.1 : Nat), .int .i64 ((vget l).2.2 : Nat)]) ∧ w = w' := by
  obtain ⟨ao, cap, rfl, hle, hm, hnn, hcell⟩ := hb.open
  have HC := hid hcell
  clear hb hcell
  go_enter Tryz.func115, Tryz.ntmps115
  go_wp2
  go_loop [5, 11] (fun v i => ∃ k : Nat, k ≤ l.length ∧ k ≤ 9 ∧ i = .int .i64 k ∧ ∃ acc : Nat, acc < 18446744073709551616 ∧ Hid (acc < 2 ^ (7 * k)) ∧ Hid (vget l = vgetA k acc (l.drop k)) ∧ v = .int .u64 acc) (fun _ i => l.length - (intOf i).toNat)
  case atStart => exact ⟨0, by omega, by omega, rfl, 0, by omega, hid (by simp), hid rfl, rfl⟩
  case round =>
    obtain ⟨k, hk, hk9, rfl, acc, hacc, HA, HG, rfl⟩ := hrel
    by_cases hlt : k < l.length
    · obtain ⟨a, rfl⟩ := hnn (by omega)
      have hc := HC.out a rfl k hlt
      have hu := (l[k]).toNat_lt
      have hdrop : l.drop k = l[k] :: l.drop (k + 1) := List.drop_eq_getElem_cons hlt
      have hstep := HG.out
      rw [hdrop] at hstep
      simp only [vgetA] at hstep
      generalize hC : l[k].toNat = c at hc hu hstep
      clear hC hdrop
      by_cases h1 : k = 9 ∧ 1 < c
      · rw [if_pos h1] at hstep
        have HS := hid hstep
        have h2 := h1.2
        have e1 : ((k : Int) == 9) = true := by simp; omega
        have hd : decide (1 < (c : Int)) = true := by simp; omega
        clear hstep h1
        go_wp2
        go_ret3
        rw [HS.out]
        exact ⟨rfl, rfl⟩
      · rw [if_neg h1] at hstep
        by_cases h2 : c = 0 ∧ 0 < k
        · rw [if_pos h2] at hstep
          have HS := hid hstep
          have hd : decide (1 < (c : Int)) = false := by simp; omega
          have hk0 : 0 < k := h2.2
          have hd3 : decide ((c : Int) < 128) = true := by simp; omega
          have e0 : ((c : Int) == 0) = true := by simp; omega
          clear hstep h1 h2
          rcases Nat.lt_or_ge k 9 with h9 | h9
          · have e1 : ((k : Int) == 9) = false := by simp; omega
            go_wp2
            go_ret3
            rw [HS.out]
            exact ⟨rfl, rfl⟩
          · have e1 : ((k : Int) == 9) = true := by simp; omega
            go_wp2
            go_ret3
            rw [HS.out]
            exact ⟨rfl, rfl⟩
        · rw [if_neg h2] at hstep
          have hA := HA.out
          have hor := or_shift acc (c % 128) k hA (by omega) hk9 (fun e => by omega)
          have hsh := shl_in c k hk9 (fun e => by omega)
          have hsum := sum_in acc (c % 128) k hA (by omega) hk9 (fun e => by omega)
          have hcast : ((c % 128 * 2 ^ (7 * k) : Nat) : Int) = (c : Int) % 128 * 2 ^ (7 * k) := by simp
          rw [hcast] at hor
          generalize hN : acc + c % 128 * 2 ^ (7 * k) = N at hor hsum
          clear hA hcast
          by_cases h3 : c < 128
          · rw [if_pos h3] at hstep
            have hd3 : decide ((c : Int) < 128) = true := by simp; omega
            have hm7 : c % 128 = c := by omega
            rw [hm7] at hN
            rw [hN] at hstep
            have HS := hid hstep
            clear hstep hm7 hsum hN
            rcases Nat.lt_or_ge k 9 with h9 | h9
            · have e1 : ((k : Int) == 9) = false := by simp; omega
              rcases Nat.eq_zero_or_pos c with h0 | h0
              · have e0 : ((c : Int) == 0) = true := by simp; omega
                have hk0 : ¬ 0 < k := fun h => h2 ⟨h0, h⟩
                clear h1 h2 h0
                go_wp2
                go_ret3
                rw [HS.out]
                exact ⟨rfl, rfl⟩
              · have e0 : ((c : Int) == 0) = false := by simp; omega
                clear h1 h2
                go_wp2
                go_ret3
                rw [HS.out]
                exact ⟨rfl, rfl⟩
            · have e1 : ((k : Int) == 9) = true := by simp; omega
              have hd : decide (1 < (c : Int)) = false := by simp; omega
              have e0 : ((c : Int) == 0) = false := by simp; omega
              clear h1 h2
              go_wp2
              go_ret3
              rw [HS.out]
              exact ⟨rfl, rfl⟩
          · rw [if_neg h3, hN] at hstep
            have hd3 : decide ((c : Int) < 128) = false := by simp; omega
            have e0 : ((c : Int) == 0) = false := by simp; omega
            have e1 : ((k : Int) == 9) = false := by simp; omega
            have hk8 : k < 9 := by omega
            have HS := hid hstep
            have HSUM := hid hsum
            clear hstep hsum h1 h2 hN
            go_wp2
            go_round
            case rel => exact ⟨k + 1, by omega, by omega, by go_num, N, HSUM.out.1, hid HSUM.out.2, HS, rfl⟩
            case measure => simp [intOf]; omega
    · obtain rfl : k = l.length := by omega
      go_wp2
      go_ret3
      have := HG.out
      rw [List.drop_length] at this
      rw [this]
      exact ⟨rfl, rfl⟩
end Go.Proofs.YtinancnlangkjaaGreatDoor

set_option maxRecDepth 100000
namespace Go.Proofs.YtinancnlangkjaaGreatDoor
open Go.RowKit Go.Tum Go.Tum.Vint

theorem info64 : (Tryz.prog.info? 32).map (fun i => (i.zero, i.size, i.bytes)) = some (some (.int .u64 0), 1, 8) := by kernel_rfl

theorem vall_any (v : Value) (l : List UInt64) (w : World) (hb : Vec uv w v l) (hl : l.length ≤ 1048576) :
    Calls Tryz.prog 85 #[v] w fun e w' => ∃ r, e = .returned r ∧ Own w' w.heap.size 5 r (vall l) ∧ Ext w w' := by
  obtain ⟨ao, cap, rfl, hle, hm, hnn, hcell⟩ := hb.open
  have HC := hid hcell
  clear hb hcell
  go_enter Tryz.func85, Tryz.ntmps85
  go_wp2
  go_loopw [3, 8] (fun o i wr => ∃ k : Nat, k ≤ l.length ∧ i = .int .i64 k ∧ (∃ bo cbp, o = .slice bo (vall (l.take k)).length cbp ∧ Hid (Own wr w.heap.size 5 (.slice bo (vall (l.take k)).length cbp) (vall (l.take k)))) ∧ Hid (Ext w wr)) (fun _ i _ => l.length - (intOf i).toNat)
  case atStart => exact ⟨0, by omega, rfl, ⟨_, _, rfl, Own.nil _ _ _⟩, Ext.refl _⟩
  case round =>
    obtain ⟨k, hk, rfl, ⟨bo, cbp, rfl, HO⟩, HE⟩ := hrel
    by_cases hlt : k < l.length
    · obtain ⟨a, rfl⟩ := hnn (by omega)
      have hc := HE.out.cell (HC.out a rfl k hlt)
      have hu := (l[k]).toNat_lt
      have hs := hid (show vall (l.take (k + 1)) = vall (l.take k) ++ vput (l[k].toNat) by rw [List.take_succ_eq_append_getElem hlt, vall_snoc])
      have hL := vall_len (l.take k)
      have hL2 := vputF_len 9 (l[k].toNat)
      rw [List.length_take] at hL
      change 1 ≤ (vput (l[k].toNat)).length ∧ (vput (l[k].toNat)).length ≤ 9 + 1 at hL2
      have HL := hid hL
      have HL2 := hid hL2
      have hsz := HE.out.size
      clear hL hL2
      go_wp2_with (first
        | (go_at_call 105; refine (vput_any _ l[k].toNat rfl (by omega) _).mono ?_; rintro e w1 ⟨r, rfl, hr1, hw1⟩)
        | (at_builtin; refine wpList_append_byt rfl (.tmp 12) (.tmp 14) 35 rfl w.heap.size 5 Tryz.underlying35 info8 rfl (HO.out.ext hw1) rfl hr1 (vall (l.take (k + 1))).length (by rw [hs.out, List.length_append]) (by rw [hs.out, List.length_append]; have := HL.out; have := HL2.out; omega) (Nat.le_trans hsz hw1.size) ?_; intro ao2 cap2 w2 hown2 hg2 hb2))
      go_roundw
      case rel => exact ⟨k + 1, by omega, by go_num, ⟨_, _, rfl, by rw [← hs.out] at hown2; exact hown2⟩, Below.trans (HE.out.trans hw1) hb2⟩
      case measure => simp [intOf]; omega
    · obtain rfl : k = l.length := by omega
      go_wp2
      go_ret
      refine ⟨_, rfl, ?_, HE.out⟩
      have := HO.out
      rw [List.take_length] at this
      show Own wr w.heap.size 5 (.slice bo (vall (l.take l.length)).length cbp) (vall l)
      rw [List.take_length]
      exact this
end Go.Proofs.YtinancnlangkjaaGreatDoor

