/- Package sum: More, Of, sumBytes, Put. -/
import Derived.Test.YtiblhopjhpflpaaDoorSumA
set_option maxRecDepth 100000
namespace Go.Proofs.YtiblhopjhpflpaaDoor
open Go.RowKit Go.Tum Go.Tum.Crc

theorem not_u32 (s : Nat) (h : s < 4294967296) : bits .xor .u32 IntKind.u32.max (s : Int) = ((4294967295 - s : Nat) : Int) := by
  have := u32_xor_nat 4294967295 s (by omega) h
  rw [show IntKind.u32.max = ((4294967295 : Nat) : Int) from rfl, this]
  congr 1
  have e : 4294967295 ^^^ s = 2 ^ 32 - 1 - s := by
    apply Nat.eq_of_testBit_eq; intro i
    rw [Nat.testBit_xor, show (4294967295 : Nat) = 2 ^ 32 - 1 from rfl, Nat.testBit_two_pow_sub_one, Nat.sub_sub, Nat.add_comm 1 s, Nat.testBit_two_pow_sub_succ (by omega)]
    by_cases hi : i < 32
    · simp [hi]
    · simp [hi]
      exact Nat.testBit_lt_two_pow (Nat.lt_of_lt_of_le h (show 2 ^ 32 ≤ 2 ^ i from Nat.pow_le_pow_right (by decide) (by omega)))
  omega

theorem byte_of_u32 (m : Nat) : IntKind.u8.wrap (m : Int) = ((m % 256 : Nat) : Int) := by rw [IntKind.wrap_u8']; omega

set_option maxRecDepth 100000 in
set_option maxHeartbeats 2000000 in
theorem more_any (x : Int) (s : Nat) (hx : x = s) (hs : s < 4294967296) (v : Value) (l : List UInt8) (w : World) (hb : Byt w v l) :
    Calls Tryd.prog 94 #[.int .u32 x, v] w fun e w' => e = .returned (.int .u32 (more s l : Nat)) ∧ Ext w w' := by
  subst hx
  obtain ⟨ao, cap, rfl, hle, hm, hnn, hcell⟩ := hb.open
  have HB := hid hb
  clear hb
  have hz := zero31
  have HS0 : Hid ((tabArr 0).size = (tabArr 256).size) := hid (by simp [tabArr])
  have HALL : Hid ((tabArr 256).all (·.oneCell') = true) := hid (by rw [← Array.all_toList]; simp [tabArr]; intro _ _; rfl)
  have hsg : IntKind.u32.signed = false := rfl
  have hnot := not_u32 s hs
  go_enter Tryd.func94, Tryd.ntmps94
  go_wp2_with (first | (go_at_call 96; refine (table_any _).mono ?_; rintro e w1 ⟨rfl, hw1⟩) | (refine wpList_store_row rfl 132 (.tmp 5) (.tmp 9) rfl w1.heap.size (tabArr 256) rfl rfl 132 (tabArr 0) (heap_alloc_new _ _) (by kernel_rfl) HS0.out HALL.out ?_))
  have hW1 : Ext w ((w1.alloc (.cells (tabArr 0) 132)).setRow w1.heap.size (tabArr 256)) :=
    Below.trans hw1 ⟨rfl, rfl, rfl, by simp, fun i hi => by rw [setRow_other _ _ _ _ (by have := hw1.size; omega)]; refine heap_alloc_old _ _ ?_; have := hw1.size; omega⟩
  have hW2 := setRow_heap (w1.alloc (.cells (tabArr 0) 132)) w1.heap.size (tabArr 0) (tabArr 256) 132 (0, 0) (heap_alloc_new _ _)
  generalize ((w1.alloc (.cells (tabArr 0) 132)).setRow w1.heap.size (tabArr 256)) = W at hW1 hW2
  generalize w1.heap.size = B at hW2
  have htab : ∀ j, j < 256 → W.cell? ⟨B, j, none⟩ = some (.int .u32 (tab j : Nat)) := fun j hj => by rw [cell_of_row W _ _ _ _ _ hW2]; exact tabArr_get hj hj
  have HT := hid htab
  have HC := hid hcell
  have HW := hid hW1
  have HW2 := hid hW2
  clear htab hcell hW1 hW2 hz hw1
  go_loop [6, 14] (fun v i => ∃ k : Nat, k ≤ l.length ∧ i = .int .i64 k ∧ ∃ m : Nat, m < 4294967296 ∧ Hid (m = crcFold (4294967295 - s) (l.take k)) ∧ v = .int .u32 m) (fun _ i => l.length - (intOf i).toNat)
  case atStart => exact ⟨0, by omega, rfl, 4294967295 - s, by omega, rfl, rfl⟩
  case round =>
    obtain ⟨k, hk, rfl, m, hm2, HM, rfl⟩ := hrel
    by_cases hlt : k < l.length
    · obtain ⟨a, rfl⟩ := hnn (by omega)
      have hc : W.cell? (a.add k) = some (.int .u8 (l[k].toNat : Int)) := HW.out.cell (HC.out a rfl k hlt)
      have hu := (l[k]).toNat_lt
      have hx8 : bits .xor .u8 ((m : Int) % 256) (l[k].toNat : Int) = ((m % 256 ^^^ l[k].toNat : Nat) : Int) := u8_xor_nat (m % 256) _ (by omega) (by omega)
      have hlt8 : m % 256 ^^^ l[k].toNat < 256 := Nat.xor_lt_two_pow (n := 8) (by omega) (by omega)
      have ht := HT.out _ hlt8
      have hx32 : bits .xor .u32 ((m : Int) / 256) ((tab (m % 256 ^^^ l[k].toNat) : Nat) : Int) = ((crcStep m l[k] : Nat) : Int) := by
        have := u32_xor_nat (m / 256) _ (by omega) (tab_lt _ hlt8)
        rw [crcStep_tab]; exact this
      have hcl := crcStep_lt m l[k] hm2
      have hs2 := crcFold_snoc (4294967295 - s) l k hlt
      have HS2 := hid hs2
      clear hs2
      go_wp2
      go_round
      case rel => exact ⟨k + 1, by omega, by go_num, _, hcl, by rw [Hid, HS2.out, ← HM.out], rfl⟩
      case measure => simp [intOf]; omega
    · obtain rfl : k = l.length := by omega
      have hnot2 := not_u32 m hm2
      go_wp2
      go_ret
      refine ⟨?_, HW.out⟩
      have := HM.out
      rw [List.take_length] at this
      subst this
      rfl

theorem of_any (v : Value) (l : List UInt8) (w : World) (hb : Byt w v l) :
    Calls Tryd.prog 87 #[v] w fun e w' => e = .returned (.int .u32 (Crc.sum l : Nat)) ∧ Ext w w' := by
  obtain ⟨ao, cap, rfl, hle, hm, hnn, hcell⟩ := hb.open
  clear hcell hnn
  have HB := hid hb
  clear hb
  go_enter Tryd.func87, Tryd.ntmps87
  go_wp2_with (go_at_call 94; refine (more_any _ 0 ?_ (by omega) _ l _ HB.out).mono ?_; rfl; rintro e w1 ⟨rfl, hw1⟩)
  go_ret
  exact ⟨rfl, hw1⟩

theorem info5 : (Tryd.prog.info? 5).map (fun i => (i.zero, i.size, i.bytes)) = some (some (.int .u8 0), 1, 1) := by kernel_rfl
/-- A number's j-th byte. -/
theorem four_get (n : Nat) (j : Nat) (h : j < 4) : (four n)[j]? = some (UInt8.ofNat (n / 2 ^ (8 * j) % 256)) := by
  match j, h with
  | 0, _ => simp [four]
  | 1, _ => rfl
  | 2, _ => rfl
  | 3, _ => rfl

theorem sumBytes_any (v : Value) (l : List UInt8) (w : World) (hb : Byt w v l) :
    Calls Tryd.prog 75 #[v] w fun e w' => ∃ r, e = .returned r ∧ Own w' w.heap.size 5 r (four (Crc.sum l)) ∧ Ext w w' := by
  obtain ⟨ao, cap, rfl, hle, hm, hnn, hcell⟩ := hb.open
  clear hcell hnn
  have HB := hid hb
  clear hb
  go_enter Tryd.func75, Tryd.ntmps75
  have hmk : ∀ w, (Instr.makeSlice 35 (.int .i64 4) (.int .i64 4)).run Tryd.prog w = .ok (.slice (some ⟨w.heap.size, 0, none⟩) 4 4) (w.alloc (.cells #[.int .u8 0, .int .u8 0, .int .u8 0, .int .u8 0] 5)) := fun _ => by kernel_rfl
  go_wp2_with (go_at_call 87; refine (of_any _ l _ HB.out).mono ?_; rintro e w1 ⟨rfl, hw1⟩)
  have hlt := more_lt 0 l
  change Crc.sum l < 4294967296 at hlt
  generalize hN : Crc.sum l = N at *
  have HN := hid hN
  clear hN
  refine wp_loop_rounds 5 ?_
  rw [rounds_succ]
  go_wp2
  rw [rounds_succ]
  go_wp2
  rw [rounds_succ]
  go_wp2
  rw [rounds_succ]
  go_wp2
  rw [rounds_succ]
  go_wp2
  go_ret
  rw [HN.out]
  refine ⟨_, rfl, own_lit _ _ _ _ _ ?_ _ rfl hw1.size (by simp [four, maxLen]), hw1.trans (Ext.alloc _ _)⟩
  have e0 : ((N : Int) % 256) = ((UInt8.ofNat (N % 256)).toNat : Int) := by simp
  have e1 : ((N : Int) / 256 % 256) = ((UInt8.ofNat (N / 256 % 256)).toNat : Int) := by simp
  have e2 : ((N : Int) / 65536 % 256) = ((UInt8.ofNat (N / 65536 % 256)).toNat : Int) := by simp
  have e3 : ((N : Int) / 16777216) = ((UInt8.ofNat (N / 16777216 % 256)).toNat : Int) := by simp; omega
  rw [e0, e1, e2, e3]
  rfl

theorem put_any (v : Value) (l : List UInt8) (w : World) (hb : Byt w v l) (hl : l.length ≤ 1048576) :
    Calls Tryd.prog 67 #[v] w fun e w' => ∃ r, e = .returned r ∧ Own w' w.heap.size 5 r (Crc.put l) ∧ Ext w w' := by
  obtain ⟨ao, cap, rfl, hle, hm, hnn, hcell⟩ := hb.open
  clear hcell hnn
  have HB := hid hb
  clear hb
  obtain ⟨i5, hi5, hz5, hs5, hb5⟩ := info_parts info5
  go_enter Tryd.func67, Tryd.ntmps67
  go_wp2_with (first
    | (at_make; refine wpList_make_own _ rfl _ _ 35 rfl w.heap.size 5 i5 (.int .u8 0) 1 Tryd.underlying35 hi5 hz5 hs5 _ _ _ (l.length + 4) rfl rfl (by omega) (by rw [hb5]; omega) (by simp [maxLen]; omega) (Nat.le_refl _) ?_; intro w1 hown1 hg1)
    | (at_builtin; refine wpList_append_byt rfl (.tmp 8) (.tmp 9) 35 rfl w.heap.size 5 Tryd.underlying35 info5 rfl (show Own w1 w.heap.size 5 _ [] from hown1) rfl (HB.out.ext (Ext.grown hg1 rfl)) l.length (by simp) (by omega) hg1.size ?_; intro ao2 cap2 w2 hown2 hg2 hb2)
    | (go_at_call 75; refine (sumBytes_any _ l _ (HB.out.ext (Below.trans (Ext.grown hg1 rfl) hb2))).mono ?_; rintro e w3 ⟨r, rfl, hr3, hw3⟩)
    | (at_builtin; refine wpList_append_byt rfl (.tmp 11) (.tmp 13) 35 rfl w.heap.size 5 Tryd.underlying35 info5 rfl (hown2.ext hw3) rfl hr3.byt (l.length + 4) (by simp [four]) (by omega) (Nat.le_trans hg1.size (Nat.le_trans hb2.size hw3.size)) ?_; intro ao4 cap4 w4 hown4 hg4 hb4))
  go_ret
  refine ⟨_, rfl, ?_, Below.trans (Below.trans (Below.trans (Ext.grown hg1 rfl) hb2) (hw3.mono (Nat.le_trans hg1.size hb2.size))) hb4⟩
  simpa [Own, Crc.put, four] using hown4
end Go.Proofs.YtiblhopjhpflpaaDoor
