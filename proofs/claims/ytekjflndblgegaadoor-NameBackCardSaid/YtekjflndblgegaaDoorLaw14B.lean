/- NameBack: awake, Large, the walk. -/
import Derived.Test.YtekjflndblgegaaDoorNamC
import Derived.Test.YtekjflndblgegaaDoorOpenV
set_option linter.unusedSimpArgs false
set_option linter.unusedVariables false
namespace Go.Proofs.YtekjflndblgegaaDoor
open Go Go.RowKit Go.Tum Go.ChangeMaps Go.Sort Go.Nam

theorem Pw.ext {w w' : World} (h : Pw w) (k : Ext w w') : Pw w' := by
  have h2 : (match w.heap[0]? with | some (Obj.cells cs _ _) => some cs | _ => none) = some (List.map (fun z => Value.int IntKind.u64 z) Lib.pow10Tab).toArray := h
  show (match w'.heap[0]? with | some (Obj.cells cs _ _) => some cs | _ => none) = some (List.map (fun z => Value.int IntKind.u64 z) Lib.pow10Tab).toArray
  cases hw : w.heap[0]? with
  | none => rw [hw] at h2; cases h2
  | some o => rw [k.obj hw]; rw [hw] at h2; exact h2
/-! ### Large -/
def LargeN (l : List Nm) (w : World) (e : Ending) (w' : World) : Prop := (∃ r, e = .returned (.bool r) ∧ (r = false → l.length ≤ 200 ∧ ∀ s ∈ l, s.length ≤ 300)) ∧ Ext w w'
theorem LargeN.yes {l : List Nm} {w w' : World} (h : Ext w w') : LargeN l w (.returned (.bool true)) w' := ⟨⟨true, rfl, fun h => by cases h⟩, h⟩
set_option maxHeartbeats 1000000 in
theorem nlarge_any (v : Value) (l : List Nm) (w : World) (h : Vec vN w v l) : Calls Tryd.prog 7 #[v] w fun e w' => LargeN l w e w' := by
  obtain ⟨ao, cap, rfl, hle, hm, hnn, hcell⟩ := h.open
  have HC := hid hcell
  have HNN := hid hnn
  clear h hcell hnn
  by_cases h1 : 200 < l.length
  · have hd : decide ((200 : Int) < l.length) = true := by simp; omega
    clear h1
    go_enter Tryd.func7, Tryd.ntmps7
    go_wp2
    go_returns
    exact LargeN.yes (Ext.refl _)
  have hd : decide ((200 : Int) < l.length) = false := by simp; omega
  go_enter Tryd.func7, Tryd.ntmps7
  go_wp2
  clear hd
  go_loopw [3] (fun i wr => ∃ k : Nat, k ≤ l.length ∧ i = .int .i64 k ∧ Hid (∀ j (h : j < l.length), j < k → l[j].length ≤ 300) ∧ wr = w) (fun i _ => l.length - (intOf i).toNat)
  case atStart => exact ⟨0, by omega, rfl, hid (fun j h h2 => absurd h2 (by omega)), rfl⟩
  case round =>
    obtain ⟨k, hk, rfl, HS, rfl⟩ := hrel
    by_cases hlt : k < l.length
    · obtain ⟨a0, rfl⟩ := HNN.out (by omega)
      have c0 := HC.out a0 rfl k hlt
      obtain ⟨s, hs⟩ : ∃ s, l[k] = s := ⟨_, rfl⟩
      have HSQ := hid hs
      rw [hs] at c0
      clear hs
      have hi1 : decide ((k : Int) < l.length) = true := by simp; omega
      have hi2 : (k : Int) < l.length := by omega
      by_cases hb : 300 < s.length
      · have hd : decide ((300 : Int) < ((str s).size : Int)) = true := by rw [str_size]; simp; omega
        go_wp2
        go_returns
        exact LargeN.yes (Ext.refl _)
      · have hd : decide ((300 : Int) < ((str s).size : Int)) = false := by rw [str_size]; simp; omega
        have HB := hid hb
        clear hb
        go_wp2
        go_roundw
        case rel =>
          refine ⟨k + 1, by omega, by go_num, hid (fun j h h2 => ?_), by first | rfl | trivial⟩
          rcases Nat.lt_or_eq_of_le (Nat.le_of_lt_succ h2) with h3 | h3
          · exact HS.out j h h3
          · subst h3; rw [HSQ.out]; have := HB.out; omega
        case measure => simp [intOf]; omega
    · have hkf : decide ((k : Int) < l.length) = false := by simp; omega
      go_wp2
      go_returns
      refine ⟨⟨false, rfl, fun _ => ⟨by omega, fun q hq => ?_⟩⟩, Ext.refl _⟩
      obtain ⟨j, hj, rfl⟩ := List.mem_iff_getElem.1 hq
      exact HS.out j hj (by omega)
/-! ### awake -/
theorem dec12 : dec 12 = [49, 50] := by
  unfold dec
  rw [Lib.decDigits_two (by omega) (by omega)]
  decide
theorem qo1 : ofL 109 12 = ([109, 46, 49, 50], 0) := by
  unfold ofL
  rw [if_pos (by decide)]
  unfold nameL
  rw [dec12]
theorem qo2 : ofL 120 1 = ([], 1) := by
  unfold ofL
  rw [if_neg (by decide)]
theorem qr1 : readV [101, 46, 48] = .tuple #[.int .u8 101, .int .u64 0, .bool true] := by kernel_rfl
theorem qr2 : readV [101, 46, 48, 48] = .tuple #[.int .u8 0, .int .u64 0, .bool false] := by kernel_rfl
theorem qn1 : numsL 109 [[109, 46, 50], [101, 46, 51], [109, 46, 49]] = [2, 1] := by kernel_rfl
set_option maxRecDepth 100000 in
set_option maxHeartbeats 2000000 in
theorem nawake_any (w : World) (ht : Pw w) : Calls Tryd.prog 6 #[] w fun e w' => e = .returned (.bool true) ∧ Ext w w' := by
  have HT := hid ht
  clear ht
  go_enter Tryd.func6, Tryd.ntmps6
  go_wp2_with fail
  have hc := of_any 109 12 (by omega) w HT.out
  rw [qo1] at hc
  refine hc.mono ?_
  clear hc
  rintro e w1 ⟨rfl, hx⟩
  have HE1 := hid hx
  clear hx
  go_wp2_with fail
  have hc := read_any [101, 46, 48] w1 (by simp)
  rw [qr1] at hc
  refine hc.mono ?_
  clear hc
  rintro e w2 ⟨rfl, hx⟩
  have HE2 := hid (HE1.out.trans hx)
  clear hx
  go_wp2_with fail
  have hc := read_any [101, 46, 48, 48] w2 (by simp)
  rw [qr2] at hc
  refine hc.mono ?_
  clear hc
  rintro e w3 ⟨rfl, hx⟩
  have HE3 := hid (HE2.out.trans hx)
  clear hx
  go_wp2_with fail
  have hc := of_any 120 1 (by omega) w3 (HT.out.ext HE3.out)
  rw [qo2] at hc
  refine hc.mono ?_
  clear hc
  rintro e w4 ⟨rfl, hx⟩
  have HE4 := hid (HE3.out.trans hx)
  clear hx
  go_wp2_with fail
  have HV := hid (owv_lit (f := vN) w4 w4.heap.size 9 [[109, 46, 50], [101, 46, 51], [109, 46, 49]] #[vN [109, 46, 50], vN [101, 46, 51], vN [109, 46, 49]] rfl 3 rfl (Nat.le_refl _) (by simp [maxLen])).vec
  have hc := only_any _ [[109, 46, 50], [101, 46, 51], [109, 46, 49]] 109 _ HV.out (by intro s hs; simp at hs; rcases hs with rfl | rfl | rfl <;> simp) (by simp) (by rw [qn1]; simp) (by rw [qn1]; simp)
  rw [qn1] at hc
  rw [show insertionSort ltU [(2 : UInt64), 1].toArray 0 [(2 : UInt64), 1].length = insertionSort ltU #[2, 1] 0 2 from rfl, ins_two 2 1 (by decide)] at hc
  refine hc.mono ?_
  clear hc
  rintro e w5 ⟨⟨u, rfl, ho⟩, hx⟩
  obtain ⟨uo, uc, rfl⟩ := ho.shape
  have HO := hid ho
  have HE5 := hid ((HE4.out.trans (Ext.alloc w4 (.cells #[vN [109, 46, 50], vN [101, 46, 51], vN [109, 46, 49]] 9 (0, 0)))).trans hx)
  clear ho hx
  go_wp2_with fail
  have HV2 := hid (owv_lit (f := uv) w5 w5.heap.size 22 [1, 2] #[uv 1, uv 2] rfl 2 rfl (Nat.le_refl _) (by simp [maxLen])).vec
  have hc := rsame64_any _ _ [1, 2] [1, 2] _ (HO.out.vec.ext (Ext.alloc w5 (.cells #[uv 1, uv 2] 22 (0, 0)))) HV2.out
  rw [show (([1, 2] : List UInt64) == [1, 2]) = true from by decide] at hc
  refine hc.mono ?_
  clear hc
  rintro e w6 ⟨rfl, hx⟩
  have HE6 := hid ((HE5.out.trans (Ext.alloc w5 (.cells #[uv 1, uv 2] 22 (0, 0)))).trans hx)
  clear hx
  go_wp2
  go_returns
  exact ⟨rfl, HE6.out⟩
/-! ### NameBack -/
theorem nm_ok {k : UInt8} {n : Nat} (hk : letL k = true) (hn : n < 10000000000) : nmOk (nameL k n) = true := by
  have h1 : (dec n).length ≤ 10 := dec_len (k := 9) hn
  have hd : ∀ (u : Nat), ∀ c ∈ dec u, 48 ≤ c.toNat ∧ c.toNat ≤ 57 := by
    intro u
    induction u using Nat.strongRecOn with
    | _ u ih =>
      intro c hc
      unfold dec at hc
      rw [Lib.decDigits] at hc
      by_cases h : u < 10
      · rw [dif_pos h] at hc
        rw [List.mem_singleton.1 hc, u8_digit h]
        omega
      · rw [dif_neg h] at hc
        rcases List.mem_append.1 hc with hc | hc
        · exact ih (u / 10) (by omega) c hc
        · rw [List.mem_singleton.1 hc, u8_digit (Nat.mod_lt u (by omega))]
          have := Nat.mod_lt u (show 10 > 0 by omega)
          omega
  have hk2 : k = 109 ∨ k = 101 ∨ k = 115 := by
    unfold letL at hk
    simpa using hk
  unfold nmOk nameL
  simp only [List.length_cons, List.all_cons, Bool.and_eq_true, decide_eq_true_eq, List.all_eq_true]
  refine ⟨⟨by omega, by omega⟩, ?_, ?_, fun c hc => ?_⟩
  · rcases hk2 with rfl | rfl | rfl <;> decide
  · decide
  · have := hd n c hc
    omega
theorem cre_new {a : Nm} (h : nmOk a = true) : (creP (newP 100) a).1 = 0 ∧ Gd (creP (newP 100) a).2 := by
  have e : creP (newP 100) a = (0, { newP 100 with files := [([], 0)], opn := [⟨[], a, some 0⟩] }) := by
    unfold creP doP creE
    rw [h]
    rfl
  rw [e]
  have h12 : a.length ≤ 12 := by
    unfold nmOk at h
    simp only [Bool.and_eq_true, decide_eq_true_eq] at h
    exact h.1.2
  have hdir : ∀ k, dirAt [] (([⟨[], a, some 0⟩] : List Chg).take k) = [] ∨ dirAt [] (([⟨[], a, some 0⟩] : List Chg).take k) = [(a, 0)] := fun k => by
    cases k with
    | zero => exact .inl rfl
    | succ k => exact .inr (by simp [dirAt, appC, noN, inN])
  refine ⟨rfl, ⟨by show (100 : Nat) ≤ _; omega, fun k => ?_, fun k => ?_, ?_, ?_, ?_, fun k => ?_, ?_⟩⟩
  · rcases hdir k with h1 | h1 <;> (show Sorted (dirAt [] _); rw [h1]; simp [Sorted])
  · intro z hz
    have hz2 : z ∈ dirAt [] (([⟨[], a, some 0⟩] : List Chg).take k) := hz
    rcases hdir k with h1 | h1
    · rw [h1] at hz2; simp at hz2
    · rw [h1] at hz2
      rw [List.mem_singleton.1 hz2]
      exact ⟨h, by simp⟩
  · intro c hc
    have hc2 : c ∈ ([⟨[], a, some 0⟩] : List Chg) := hc
    rw [List.mem_singleton.1 hc2]
    exact ⟨by simp, h12, fun f hf => by cases hf; simp, fun _ => rfl⟩
  · intro x hx
    have hx2 : x ∈ ([([], 0)] : List (List UInt8 × Nat)) := hx
    rw [List.mem_singleton.1 hx2]
    simp
  · show sumL _ _ ≤ 100
    simp [cntd, newOf, sumL, flen, newP]
  · rcases hdir k with h1 | h1 <;> (show (dirAt [] _).length ≤ 60; rw [h1]; simp)
  · show (-1 : Int) ≤ -1 ∧ (-1 : Int) ≤ 9223372036854775807
    omega
set_option maxRecDepth 100000 in
set_option maxHeartbeats 4000000 in
theorem nameBack_law (kind : UInt8) (n : UInt64) (s : Nm) (w : World) (ht : Pw w) :
    Calls Tryd.prog 4 #[u8V kind, uv n, vN s] w fun e w' => e = .returned (.bool true) ∧ Ext w w' := by
  have HT := hid ht
  clear ht
  go_enter Tryd.func4, Tryd.ntmps4
  go_wp2_with fail
  refine (nawake_any w HT.out).mono ?_
  rintro e w1 ⟨rfl, hx⟩
  have HE1 := hid hx
  clear hx
  go_wp2_with fail
  have HV := hid (Vec.one (f := vN) w1 9 (vN s) s rfl)
  refine (nlarge_any _ [s] _ HV.out).mono ?_
  rintro e w2 ⟨⟨r, rfl, hr⟩, hx⟩
  have HE2 := hid ((HE1.out.trans (Ext.alloc w1 (.cells #[vN s] 9 (0, 0)))).trans hx)
  clear hx HV
  cases r
  case true =>
    clear hr
    go_wp2
    go_returns
    exact ⟨rfl, HE2.out⟩
  have HSL : Hid (s.length ≤ 300) := hid ((hr rfl).2 s (by simp))
  clear hr
  go_wp2_with fail
  obtain ⟨R, hR⟩ : ∃ R, ofL kind n.toNat = R := ⟨_, rfl⟩
  have HRR := hid hR
  have hc := of_any kind n.toNat n.toNat_lt w2 (HT.out.ext HE2.out)
  rw [hR] at hc
  refine hc.mono ?_
  clear hc hR
  rintro e w3 ⟨rfl, hx⟩
  have HE3 := hid (HE2.out.trans hx)
  clear hx
  obtain ⟨a, er⟩ := R
  by_cases hk : letL kind = true ∧ n.toNat < 10000000000
  · have HK := hid hk
    have HO : Hid (nameL kind n.toNat = a ∧ 0 = er) := hid (by
      have := HRR.out
      unfold ofL at this
      rw [hk.1, decide_eq_true hk.2] at this
      simpa using this)
    obtain ⟨-, rfl⟩ := HO.out
    clear hk
    go_wp2_with fail
    have hc := read_any a w3 (by rw [← HO.out.1]; unfold nameL; have := dec_len (k := 9) HK.out.2; simp; omega)
    rw [readV_some (by rw [← HO.out.1]; exact read_name HK.out.1 HK.out.2)] at hc
    refine hc.mono ?_
    clear hc
    rintro e w4 ⟨rfl, hx⟩
    have HE4 := hid (HE3.out.trans hx)
    clear hx
    go_wp2_with fail
    refine (dnew_any w4 w4.heap.size (Nat.le_refl _) 100).mono ?_
    rintro e w5 ⟨-, hd⟩
    obtain ⟨p, x, rfl, hD, hx, -⟩ := hd (by omega) (by omega)
    have HE5 := hid (HE4.out.trans hx)
    have HX5 := hid hx
    have HD : Hid (Dk w4.heap.size w5 p x (newP 100)) := hid hD
    have HCN := hid (cre_new (a := a) (by rw [← HO.out.1]; exact nm_ok HK.out.1 HK.out.2))
    have HAL : Hid (a.length ≤ maxLen) := hid (by rw [← HO.out.1]; unfold nameL; have := dec_len (k := 9) HK.out.2; simp [maxLen]; omega)
    clear hx hd hD
    go_wp2_with fail
    have hc := dcreate_any a HAL.out HD.out HX5.out.size HCN.out.2 (by simp [newP])
    refine hc.mono ?_
    clear hc
    rintro e w6 ⟨he, hs⟩
    rw [HCN.out.1] at he
    subst he
    obtain ⟨x', -, -, hb, -⟩ := hs
    have HE6 : Hid (Ext w w6) := hid (Below.trans HE5.out (hb.mono (Nat.le_trans HE4.out.size (Nat.le_refl _))))
    clear hb
    go_wp2_with fail
    cases hr : readL s with
    | none =>
      have hc := read_any s w6 (by have := HSL.out; omega)
      rw [readV_none hr] at hc
      clear hr
      refine hc.mono ?_
      clear hc
      rintro e w7 ⟨rfl, hx⟩
      have HE7 := hid (HE6.out.trans hx)
      clear hx
      go_wp2
      go_returns
      exact ⟨rfl, HE7.out⟩
    | some q =>
      obtain ⟨k2, m⟩ := q
      have HNR := hid (name_read hr)
      have hc := read_any s w6 (by have := HSL.out; omega)
      rw [readV_some hr] at hc
      clear hr
      refine hc.mono ?_
      clear hc
      rintro e w7 ⟨rfl, hx⟩
      have HE7 := hid (HE6.out.trans hx)
      clear hx
      go_wp2_with fail
      have hc := of_any k2 m (by have := HNR.out.2.2; omega) w7 (HT.out.ext HE7.out)
      have HQ : Hid (ofL k2 m = (s, 0)) := hid (by
        unfold ofL
        rw [HNR.out.2.1, decide_eq_true HNR.out.2.2, ← HNR.out.1]
        rfl)
      rw [HQ.out] at hc
      refine hc.mono ?_
      clear hc
      rintro e w8 ⟨rfl, hx⟩
      have HE8 := hid (HE7.out.trans hx)
      have hss : (s == s) = true := by simp
      clear hx
      go_wp2
      go_returns
      exact ⟨rfl, HE8.out⟩
  · have HO : Hid ([] = a ∧ 1 = er) := hid (by
      have := HRR.out
      unfold ofL at this
      rw [if_neg (by simpa using hk)] at this
      simpa using this)
    obtain ⟨rfl, rfl⟩ := HO.out
    have HE6 := HE3
    clear hk
    go_wp2_with fail
    cases hr : readL s with
    | none =>
      have hc := read_any s w3 (by have := HSL.out; omega)
      rw [readV_none hr] at hc
      clear hr
      refine hc.mono ?_
      clear hc
      rintro e w7 ⟨rfl, hx⟩
      have HE7 := hid (HE6.out.trans hx)
      clear hx
      go_wp2
      go_returns
      exact ⟨rfl, HE7.out⟩
    | some q =>
      obtain ⟨k2, m⟩ := q
      have HNR := hid (name_read hr)
      have hc := read_any s w3 (by have := HSL.out; omega)
      rw [readV_some hr] at hc
      clear hr
      refine hc.mono ?_
      clear hc
      rintro e w7 ⟨rfl, hx⟩
      have HE7 := hid (HE6.out.trans hx)
      clear hx
      go_wp2_with fail
      have hc := of_any k2 m (by have := HNR.out.2.2; omega) w7 (HT.out.ext HE7.out)
      have HQ : Hid (ofL k2 m = (s, 0)) := hid (by
        unfold ofL
        rw [HNR.out.2.1, decide_eq_true HNR.out.2.2, ← HNR.out.1]
        rfl)
      rw [HQ.out] at hc
      refine hc.mono ?_
      clear hc
      rintro e w8 ⟨rfl, hx⟩
      have HE8 := hid (HE7.out.trans hx)
      have hss : (s == s) = true := by simp
      clear hx
      go_wp2
      go_returns
      exact ⟨rfl, HE8.out⟩
theorem nm14_of (s : ByteArray) : s = str s.data.toList := by
  apply ByteArray.ext
  simp [str]
section
open Go.WideShapes Go.ChangeShapes
variable {H : Type} {enc : TypeId × Value → H} {w : World} {base : Nat} {held : Bool}
theorem open_str14 {v : Value} {d : DataW H} {p : List MemPlace} {r : Reach} {b0 : Nat} (hval : Value.okWide Tryd.prog w r b0 9 v) (h : DataW.Trod enc Tryd.prog w base (fun _ => true) held 9 v d p) :
    ∃ l : List UInt8, v = .string (str l) := by
  obtain ⟨s, rfl, -⟩ := Go.ChangeMaps.open_string Tryd.underlying9 hval h
  exact ⟨s.data.toList, congrArg Value.string (nm14_of s)⟩
end
end Go.Proofs.YtekjflndblgegaaDoor
