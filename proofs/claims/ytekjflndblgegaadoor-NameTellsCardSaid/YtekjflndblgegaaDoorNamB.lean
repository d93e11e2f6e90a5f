/- Names of files: Of, Read. -/
import Derived.Test.YtekjflndblgegaaDoorNamA
import Derived.Laws.RangeString
import Derived.Laws.RangeAny
import Derived.Laws.DeepStrings4
set_option linter.unusedSimpArgs false
set_option linter.unusedVariables false
namespace Go.Proofs.YtekjflndblgegaaDoor
open Go Go.RowKit Go.Tum Go.ChangeMaps Go.Sort Go.Nam

theorem str_app2 (a b : List UInt8) : str a ++ str b = str (a ++ b) := by
  apply ByteArray.ext
  simp [str, ByteArray.data_append]
set_option maxRecDepth 100000 in
set_option maxHeartbeats 1000000 in
theorem of_any (k : UInt8) (n : Nat) (hn : n < 18446744073709551616) (w : World) (htab : Pw w) :
    Calls Tryd.prog 8 #[u8V k, .int .u64 (n : Int)] w fun e w' => e = .returned (.tuple #[.string (str (ofL k n).1), .int .i64 (ofL k n).2]) ∧ Ext w w' := by
  obtain ⟨R, hR⟩ : ∃ R, ofL k n = R := ⟨_, rfl⟩
  have HR := hid hR
  rw [hR]
  have HT := hid htab
  obtain ⟨b, hb⟩ : ∃ b, letL k = b := ⟨_, rfl⟩
  have HB := hid hb
  have hl := fun w => letter_any k w
  rw [hb] at hl
  have HL := hid hl
  clear hR htab hl
  cases b
  case false =>
    have HO : Hid (R = ([], 1)) := hid (by rw [← HR.out]; unfold ofL; rw [HB.out]; rfl)
    clear hb
    go_enter Tryd.func8, Tryd.ntmps8
    go_wp2_with fail
    refine (HL.out _).mono ?_
    rintro e w1 ⟨rfl, rfl⟩
    go_wp2
    go_returns
    rw [HO.out]
    exact ⟨rfl, Ext.refl _⟩
  by_cases hn2 : n < 10000000000
  · have hd : decide ((10000000000 : Int) ≤ (n : Int)) = false := by simp; omega
    have HO : Hid (R = (nameL k n, 0)) := hid (by rw [← HR.out]; unfold ofL; rw [HB.out, decide_eq_true hn2]; rfl)
    have hk : k = 109 ∨ k = 101 ∨ k = 115 := by
      unfold letL at hb
      simpa using hb
    have HF := hid (fun w' (h : Pw w') => fmt_any n hn w' h)
    have hn3 := hn2
    clear hb hn2
    have hdl : (dec n).length ≤ 10 := dec_len (k := 9) (by simpa using hn3)
    have HDL := hid hdl
    clear hn3
    rcases hk with rfl | rfl | rfl
    · have z1 : ¬ 9223372036854775807 < (Utf8.encode 109).size + 1 := by rw [show (Utf8.encode 109).size = 1 from by kernel_rfl]; omega
      have z2 : ¬ 9223372036854775807 < (Utf8.encode 109).size + 1 + (dec n).length := by rw [show (Utf8.encode 109).size = 1 from by kernel_rfl]; omega
      go_enter Tryd.func8, Tryd.ntmps8
      go_wp2_with fail
      refine (HL.out _).mono ?_
      rintro e w1 ⟨rfl, rfl⟩
      go_wp2_with fail
      refine (HF.out _ HT.out).mono ?_
      rintro e w2 ⟨rfl, hx⟩
      have HX := hid hx
      clear hx
      go_wp2
      all_goals go_returns
      all_goals rw [HO.out]
      exact ⟨by unfold nameL; rw [show Utf8.encode 109 = str [109] from by kernel_rfl, show (⟨#[46]⟩ : ByteArray) = str [46] from rfl, str_app2, str_app2]; rfl, HX.out⟩
    · have z1 : ¬ 9223372036854775807 < (Utf8.encode 101).size + 1 := by rw [show (Utf8.encode 101).size = 1 from by kernel_rfl]; omega
      have z2 : ¬ 9223372036854775807 < (Utf8.encode 101).size + 1 + (dec n).length := by rw [show (Utf8.encode 101).size = 1 from by kernel_rfl]; omega
      go_enter Tryd.func8, Tryd.ntmps8
      go_wp2_with fail
      refine (HL.out _).mono ?_
      rintro e w1 ⟨rfl, rfl⟩
      go_wp2_with fail
      refine (HF.out _ HT.out).mono ?_
      rintro e w2 ⟨rfl, hx⟩
      have HX := hid hx
      clear hx
      go_wp2
      all_goals go_returns
      all_goals rw [HO.out]
      exact ⟨by unfold nameL; rw [show Utf8.encode 101 = str [101] from by kernel_rfl, show (⟨#[46]⟩ : ByteArray) = str [46] from rfl, str_app2, str_app2]; rfl, HX.out⟩
    · have z1 : ¬ 9223372036854775807 < (Utf8.encode 115).size + 1 := by rw [show (Utf8.encode 115).size = 1 from by kernel_rfl]; omega
      have z2 : ¬ 9223372036854775807 < (Utf8.encode 115).size + 1 + (dec n).length := by rw [show (Utf8.encode 115).size = 1 from by kernel_rfl]; omega
      go_enter Tryd.func8, Tryd.ntmps8
      go_wp2_with fail
      refine (HL.out _).mono ?_
      rintro e w1 ⟨rfl, rfl⟩
      go_wp2_with fail
      refine (HF.out _ HT.out).mono ?_
      rintro e w2 ⟨rfl, hx⟩
      have HX := hid hx
      clear hx
      go_wp2
      all_goals go_returns
      all_goals rw [HO.out]
      exact ⟨by unfold nameL; rw [show Utf8.encode 115 = str [115] from by kernel_rfl, show (⟨#[46]⟩ : ByteArray) = str [46] from rfl, str_app2, str_app2]; rfl, HX.out⟩
  · have hd : decide ((10000000000 : Int) ≤ (n : Int)) = true := by simp; omega
    have HO : Hid (R = ([], 1)) := hid (by rw [← HR.out]; unfold ofL; rw [decide_eq_false hn2, Bool.and_false]; rfl)
    clear hb hn2
    go_enter Tryd.func8, Tryd.ntmps8
    go_wp2_with fail
    refine (HL.out _).mono ?_
    rintro e w1 ⟨rfl, rfl⟩
    go_wp2
    go_returns
    rw [HO.out]
    exact ⟨rfl, Ext.refl _⟩
/-- What a text is the name of. -/
def readV (s : List UInt8) : Value := match readL s with
  | some (k, n) => .tuple #[u8V k, .int .u64 (n : Int), .bool true]
  | none => .tuple #[.int .u8 0, .int .u64 0, .bool false]
theorem readV_none {s : List UInt8} (h : readL s = none) : readV s = .tuple #[.int .u8 0, .int .u64 0, .bool false] := by unfold readV; rw [h]
theorem readV_some {s : List UInt8} {k : UInt8} {n : Nat} (h : readL s = some (k, n)) : readV s = .tuple #[u8V k, .int .u64 (n : Int), .bool true] := by unfold readV; rw [h]
theorem str_extract (l : List UInt8) (a b : Nat) : (str l).extract a b = str ((l.take b).drop a) := by
  apply ByteArray.ext
  apply Array.ext'
  simp [str, ByteArray.data_extract, List.drop_take]
def itPos (w : World) (b n : Nat) : Nat := match w.heap[b]? with
  | some (.stringIter _ pos) => n - pos
  | _ => 0
theorem itPos_eq {w : World} {b n pos : Nat} {s : ByteArray} (h : w.heap[b]? = some (.stringIter s pos)) : itPos w b n = n - pos := by unfold itPos; rw [h]
theorem ix0 (k p : UInt8) (ds : List UInt8) (W : World) : (Instr.index 9 (.string (str (k :: p :: ds))) (.int .i64 0)).run Tryd.prog W = .ok (u8V k) W := by
  rw [run_index_string (h := Tryd.underlying9), dif_pos ⟨by omega, by rw [str_size]; simp; omega⟩]
  rfl
theorem sl12 (k p : UInt8) (ds : List UInt8) (W : World) : (Instr.sliceAt 9 (.string (str (k :: p :: ds))) (some (.int .i64 1)) (some (.int .i64 2)) none).run Tryd.prog W = .ok (.string (str [p])) W := by
  rw [run_sliceAt_string (h := Tryd.underlying9), run_slice_string_if (h := Tryd.underlying9), if_pos (by rw [str_size]; simp; omega), if_pos (by omega), str_extract]
  rfl
theorem sl2 (k p : UInt8) (ds : List UInt8) (W : World) : (Instr.sliceAt 9 (.string (str (k :: p :: ds))) (some (.int .i64 2)) none none).run Tryd.prog W = .ok (.string (str ds)) W := by
  rw [run_sliceAt_string (h := Tryd.underlying9), run_slice_string_l (ht := Tryd.underlying9) (h0 := by omega) (h1 := by rw [str_size]; simp; omega), str_extract, str_size, List.take_of_length_le (Nat.le_refl _)]
  rfl
set_option maxRecDepth 100000 in
set_option maxHeartbeats 4000000 in
theorem read_any (s : List UInt8) (w : World) (hs : s.length ≤ 1048576) :
    Calls Tryd.prog 10 #[.string (str s)] w fun e w' => e = .returned (readV s) ∧ Ext w w' := by
  obtain ⟨R, hR⟩ : ∃ R, readV s = R := ⟨_, rfl⟩
  have HR := hid hR
  rw [hR]
  clear hR
  go_enter Tryd.func10, Tryd.ntmps10
  go_wp2
  refine wp_scope_jumps 0 (fun a' w' => Ext w w' ∧ Hid (R = .tuple #[.int .u8 0, .int .u64 0, .bool false]) ∧ ∃ x0 x1 x2 x3 x4 x5 x6 x7 x8 x9 x10 x11 x12 x13 x14 x15 x16 x17 x18 x19 x20 x21 x22 x23 x24 x25 x26 x27 x28 x29 x30 x31 x32 x33 x34 x35 x36 x37 x38 x39 x40 x41 x42 x43 x44 x45 x46 x47 x48 x49 x50 x51 x52 : Value, a' = { tmps := #[x0, x1, x2, x3, x4, x5, x6, x7, x8, x9, x10, x11, x12, x13, x14, x15, x16, x17, x18, x19, x20, x21, x22, x23, x24, x25, x26, x27, x28, x29, x30, x31, x32, x33, x34, x35, x36, x37, x38, x39, x40, x41, x42, x43, x44, x45, x46, x47, x48, x49, x50, x51, x52], defers := [] }) (fun _ _ => 0) rfl ?_ ?_
  case refine_2 =>
    rintro a' w' ⟨hE9, HO, x0, x1, x2, x3, x4, x5, x6, x7, x8, x9, x10, x11, x12, x13, x14, x15, x16, x17, x18, x19, x20, x21, x22, x23, x24, x25, x26, x27, x28, x29, x30, x31, x32, x33, x34, x35, x36, x37, x38, x39, x40, x41, x42, x43, x44, x45, x46, x47, x48, x49, x50, x51, x52, rfl⟩
    have HE9 := hid hE9
    clear hE9
    go_wp2
    try simp only [Exit.jump]
    go_returns
    rw [HO.out]
    exact ⟨rfl, HE9.out⟩
  case refine_1 =>
    by_cases h1 : s.length ≤ 2
    · have hd : decide (((str s).size : Int) ≤ 2) = true := by rw [str_size]; simp; omega
      have HO : Hid (R = .tuple #[.int .u8 0, .int .u64 0, .bool false]) := hid (by
        rw [← HR.out]
        refine readV_none ?_
        match s, h1 with
        | [], _ => rfl
        | [a], _ => rfl
        | [a, b], _ => unfold readL; simp)
      have hE9 : Ext w w := Ext.refl _
      go_wp2
      go_step3
      exact ⟨rfl, hE9, HO, _, _, _, _, _, _, _, _, _, _, _, _, _, _, _, _, _, _, _, _, _, _, _, _, _, _, _, _, _, _, _, _, _, _, _, _, _, _, _, _, _, _, _, _, _, _, _, _, _, _, _, _, _, rfl⟩
    have hd : decide (((str s).size : Int) ≤ 2) = false := by rw [str_size]; simp; omega
    by_cases h2 : 12 < s.length
    · have hd2 : decide ((12 : Int) < ((str s).size : Int)) = true := by rw [str_size]; simp; omega
      have HO : Hid (R = .tuple #[.int .u8 0, .int .u64 0, .bool false]) := hid (by
        rw [← HR.out]
        refine readV_none ?_
        match s, h1, h2 with
        | k :: p :: ds, _, h2 =>
          unfold readL
          simp only
          rw [if_neg]
          simp at h2
          simp
          intros
          omega)
      have hE9 : Ext w w := Ext.refl _
      go_wp2
      go_step3
      exact ⟨rfl, hE9, HO, _, _, _, _, _, _, _, _, _, _, _, _, _, _, _, _, _, _, _, _, _, _, _, _, _, _, _, _, _, _, _, _, _, _, _, _, _, _, _, _, _, _, _, _, _, _, _, _, _, _, _, _, _, rfl⟩
    have hd2 : decide ((12 : Int) < ((str s).size : Int)) = false := by rw [str_size]; simp; omega
    obtain ⟨k, p, ds, rfl⟩ : ∃ k p ds, s = k :: p :: ds := by
      match s, h1 with
      | k :: p :: ds, _ => exact ⟨k, p, ds, rfl⟩
      | [a], h => simp at h
      | [], h => simp at h
    have e3 : (k :: p :: ds).length = ds.length + 2 := by simp
    have hd1 : 1 ≤ ds.length ∧ ds.length ≤ 10 := by omega
    have HD1 := hid hd1
    obtain ⟨b, hb⟩ : ∃ b, letL k = b := ⟨_, rfl⟩
    have HB := hid hb
    have hl := fun w => letter_any k w
    rw [hb] at hl
    have HL := hid hl
    have hx0 := ix0 k p ds
    have hx1 := sl12 k p ds
    have hx2 := sl2 k p ds
    clear hb hl h1 h2 hs hd1 e3
    cases b
    case false =>
      have HO : Hid (R = .tuple #[.int .u8 0, .int .u64 0, .bool false]) := hid (by
        rw [← HR.out]
        refine readV_none ?_
        unfold readL
        simp [HB.out])
      have hE9 : Ext w w := Ext.refl _
      go_wp2_with fail
      refine (HL.out _).mono ?_
      rintro e w1 ⟨rfl, rfl⟩
      go_wp2
      go_step3
      exact ⟨rfl, hE9, HO, _, _, _, _, _, _, _, _, _, _, _, _, _, _, _, _, _, _, _, _, _, _, _, _, _, _, _, _, _, _, _, _, _, _, _, _, _, _, _, _, _, _, _, _, _, _, _, _, _, _, _, _, _, rfl⟩
    by_cases hp : p = 46
    case neg =>
      have hpb : (p == 46) = false := by simpa using hp
      have hpc : ([p] == [46]) = false := by simpa using hp
      have HO : Hid (R = .tuple #[.int .u8 0, .int .u64 0, .bool false]) := hid (by
        rw [← HR.out]
        refine readV_none ?_
        unfold readL
        simp [hpb])
      have hE9 : Ext w w := Ext.refl _
      clear hp
      go_wp2_with fail
      refine (HL.out _).mono ?_
      rintro e w1 ⟨rfl, rfl⟩
      go_wp2
      go_step3
      exact ⟨rfl, hE9, HO, _, _, _, _, _, _, _, _, _, _, _, _, _, _, _, _, _, _, _, _, _, _, _, _, _, _, _, _, _, _, _, _, _, _, _, _, _, _, _, _, _, _, _, _, _, _, _, _, _, _, _, _, _, rfl⟩
    subst hp
    have HRN : Hid (∀ m, num true 0 ds = some m → R = .tuple #[u8V k, .int .u64 (m : Int), .bool true]) := hid (fun m hm => by
      rw [← HR.out]
      refine readV_some ?_
      unfold readL
      dsimp only
      rw [if_pos (by rw [HB.out]; simp [HD1.out.1, HD1.out.2]), hm]
      rfl)
    have HNO : Hid (num true 0 ds = none → R = .tuple #[.int .u8 0, .int .u64 0, .bool false]) := hid (fun hm => by
      rw [← HR.out]
      refine readV_none ?_
      unfold readL
      dsimp only
      rw [if_pos (by rw [HB.out]; simp [HD1.out.1, HD1.out.2]), hm]
      rfl)
    go_wp2_with fail
    refine (HL.out _).mono ?_
    rintro e w1 ⟨rfl, rfl⟩
    go_wp2
    go_loopw [5] (fun nv wr => ∃ (pos m : Nat), pos ≤ ds.length ∧ nv = .int .u64 (m : Int) ∧ Hid (wr.heap[w1.heap.size]? = some (.stringIter (str ds) pos)) ∧ Hid (Ext w1 wr) ∧ Hid (num true 0 ds = num (decide (pos = 0)) m (ds.drop pos)) ∧ Hid (m < 10 ^ pos)) (fun _ wr => itPos wr w1.heap.size ds.length)
    case atStart => exact ⟨0, 0, by omega, rfl, World.iter_heap w1 (str ds) 0, Ext.alloc _ _, hid rfl, hid (by simp)⟩
    case round =>
      obtain ⟨pos, m, hpos, rfl, HIT, HE, HN, HM⟩ := hrel
      by_cases hlt : pos < ds.length
      · have hne := drop_ne hlt
        have hdrop := List.drop_eq_getElem_cons hlt
        have hnx : ∀ ty, (Instr.next (.pointer (some ⟨w1.heap.size, 0, none⟩)) true ty).run Tryd.prog wr = _ := fun ty => Lib.run_next_any_at wr w1.heap.size (str ds) pos ty HIT.out (by rw [str_size]; exact hlt)
        obtain ⟨b, hb⟩ : ∃ b, ds[pos] = b := ⟨_, rfl⟩
        rw [hb] at hdrop
        have hn := HN.out
        rw [hdrop, num] at hn
        have hdl := dec_lo b (ds.drop (pos + 1))
        rw [← hdrop] at hdl
        obtain ⟨RR, KK, hRK⟩ : ∃ R K, Lib.decodeL (ds.drop pos) = (R, K) := ⟨_, _, rfl⟩
        rw [dec_at] at hnx
        rw [hRK] at hnx hdl
        have hit2 := Lib.iterAt_heap wr w1.heap.size (str ds) pos (pos + KK) HIT.out
        have hE2 := Lib.below_iterAt HE.out (k := w1.heap.size) (Nat.le_refl _) (str ds) (pos + KK)
        obtain ⟨W2, hW⟩ : ∃ W2, wr.iterAt w1.heap.size (str ds) (pos + KK) = W2 := ⟨_, rfl⟩
        dsimp only at hnx
        rw [hW] at hnx hit2 hE2
        have HIT2 := hid hit2
        have HE2 := hid hE2
        have HDL := hid hdl
        have HN2 := hid hn
        have HLT := hid hlt
        clear hne hdrop hn hdl hRK hit2 hE2 hW hb HN HE
        have hE9 := HE2.out
        have hb256 := b.toNat_lt
        by_cases hc1 : RR < 48
        · have hcb : decide ((RR : Int) < 48) = true := by simp; omega
          have HO : Hid (R = .tuple #[.int .u8 0, .int .u64 0, .bool false]) := hid (HNO.out (by
            rw [HN2.out, if_neg]
            rcases HDL.out with h | h
            · have : RR = b.toNat := by cases h; rfl
              simp; omega
            · have := h.1; simp; dsimp only at this; omega))
          clear hc1
          go_wp2
          go_step3
          exact ⟨rfl, hE9, HO, _, _, _, _, _, _, _, _, _, _, _, _, _, _, _, _, _, _, _, _, _, _, _, _, _, _, _, _, _, _, _, _, _, _, _, _, _, _, _, _, _, _, _, _, _, _, _, _, _, _, _, _, _, rfl⟩
        have hcb1 : decide ((RR : Int) < 48) = false := by simp; omega
        by_cases hc2 : 57 < RR
        · have hcb : decide ((57 : Int) < (RR : Int)) = true := by simp; omega
          have HO : Hid (R = .tuple #[.int .u8 0, .int .u64 0, .bool false]) := hid (HNO.out (by
            rw [HN2.out, if_neg]
            rcases HDL.out with h | h
            · have : RR = b.toNat := by cases h; rfl
              simp; omega
            · have := h.2; simp; omega))
          clear hc1 hc2
          go_wp2
          go_step3
          exact ⟨rfl, hE9, HO, _, _, _, _, _, _, _, _, _, _, _, _, _, _, _, _, _, _, _, _, _, _, _, _, _, _, _, _, _, _, _, _, _, _, _, _, _, _, _, _, _, _, _, _, _, _, _, _, _, _, _, _, _, rfl⟩
        have hcb2 : decide ((57 : Int) < (RR : Int)) = false := by simp; omega
        obtain ⟨rfl, rfl⟩ : RR = b.toNat ∧ KK = 1 := by
          rcases HDL.out with h | h
          · cases h; exact ⟨rfl, rfl⟩
          · have := h.1; dsimp only at this; omega
        by_cases hz : 0 < pos ∧ m = 0
        · have hz1 : decide ((0 : Int) < (pos : Int)) = true := by simp; omega
          obtain ⟨hzp, rfl⟩ := hz
          have HO : Hid (R = .tuple #[.int .u8 0, .int .u64 0, .bool false]) := hid (HNO.out (by
            rw [HN2.out, if_neg]
            simp; omega))
          clear hc1 hc2
          go_wp2
          go_step3
          exact ⟨rfl, hE9, HO, _, _, _, _, _, _, _, _, _, _, _, _, _, _, _, _, _, _, _, _, _, _, _, _, _, _, _, _, _, _, _, _, _, _, _, _, _, _, _, _, _, _, _, _, _, _, _, _, _, _, _, _, _, rfl⟩
        have HN3 : Hid (num true 0 ds = num false (10 * m + (b.toNat - 48)) (ds.drop (pos + 1))) := hid (by
          rw [HN2.out, if_pos]
          by_cases h0 : pos = 0
          · simp [h0]; omega
          · have : m ≠ 0 := fun e => hz ⟨by omega, e⟩
            simp [this]; omega)
        have hm10 : m < 10000000000 := by
          have h1 := HM.out
          have h2 : 10 ^ pos ≤ 10 ^ 10 := Nat.pow_le_pow_right (by omega) (by have := HD1.out; omega)
          omega
        have HM2 : Hid (10 * m + (b.toNat - 48) < 10 ^ (pos + 1)) := hid (by
          have h1 := HM.out
          rw [Nat.pow_succ]
          omega)
        have hw1 : IntKind.u64.wrap (10 * (m : Int)) = ((10 * m : Nat) : Int) := by rw [IntKind.wrap_u64]; omega
        have hw2 : IntKind.i32.wrap ((b.toNat : Int) - 48) = ((b.toNat - 48 : Nat) : Int) := by rw [IntKind.wrap_i32]; omega
        have hw3 : IntKind.u64.wrap ((b.toNat - 48 : Nat) : Int) = ((b.toNat - 48 : Nat) : Int) := by rw [IntKind.wrap_u64]; omega
        have hw4 : IntKind.u64.wrap (((10 * m : Nat) : Int) + ((b.toNat - 48 : Nat) : Int)) = ((10 * m + (b.toNat - 48) : Nat) : Int) := by rw [IntKind.wrap_u64]; omega
        have hzz : (decide ((0 : Int) < (pos : Int)) && ((m : Int) == 0)) = false := by
          by_cases h0 : pos = 0
          · simp [h0]
          · have : m ≠ 0 := fun e => hz ⟨by omega, e⟩
            simp; omega
        clear hc1 hc2
        by_cases h0 : pos = 0
        · subst h0
          go_wp2
          refine ⟨⟨0 + 1, 10 * m + (b.toNat - 48), by have := HLT.out; omega, congrArg (Value.int .u64) (by omega), HIT2, HE2, hid (by rw [HN3.out]; rfl), HM2⟩, ?_⟩
          rw [itPos_eq HIT2.out, itPos_eq HIT.out]
          have := HLT.out
          omega
        · have hz1 : decide ((0 : Int) < (pos : Int)) = true := by simp; omega
          have hzp : 0 < pos := by omega
          have hme : ((m : Int) == 0) = false := by
            have : m ≠ 0 := fun e => hz ⟨by omega, e⟩
            simp; omega
          have HPN := hid (show decide (pos + 1 = 0) = false by simp)
          clear hz h0 hzz
          go_wp2
          refine ⟨⟨pos + 1, 10 * m + (b.toNat - 48), by have := HLT.out; omega, congrArg (Value.int .u64) (by omega), HIT2, HE2, hid (by rw [HN3.out, HPN.out]), HM2⟩, ?_⟩
          rw [itPos_eq HIT2.out, itPos_eq HIT.out]
          have := HLT.out
          omega
      · obtain rfl : pos = ds.length := by omega
        have hnx : ∀ ty, (Instr.next (.pointer (some ⟨w1.heap.size, 0, none⟩)) true ty).run Tryd.prog wr = _ := fun ty => Lib.run_next_end_at wr w1.heap.size (str ds) ds.length ty HIT.out (by rw [str_size]; exact hlt)
        have HRM := hid (HRN.out m (by rw [HN.out, List.drop_length, num]))
        go_wp2
        try simp only [Exit.jump]
        go_returns
        rw [HRM.out]
        exact ⟨rfl, HE.out⟩
end Go.Proofs.YtekjflndblgegaaDoor
