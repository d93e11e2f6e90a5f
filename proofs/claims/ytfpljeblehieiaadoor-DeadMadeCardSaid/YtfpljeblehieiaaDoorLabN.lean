/- Runes: boundaries; the document's way of cutting; runes written. -/
import Derived.Test.YtfpljeblehieiaaDoorLabM
import Derived.Laws.Cover4
import Derived.Laws.IdiomStrings
namespace Go.Tum.Rn
open Go.Lib

theorem cont_of {l : List UInt8} {i : Nat} (h1 : 1 ≤ i) (h2 : i < (decodeL l).2) : (l.getD i 0).toNat / 64 = 2 := by
  rw [decodeL_N] at h2
  rcases decodeN_shape l.length (l.getD 0 0).toNat (l.getD 1 0).toNat (l.getD 2 0).toNat (l.getD 3 0).toNat with ⟨c, e⟩ | ⟨c1, c2, c3, cv, e⟩ | ⟨c1, c2, c3, c4, cv, cs, e⟩ | ⟨c1, c2, c3, c4, c5, cv, cw, e⟩ | e
  all_goals (rw [e] at h2; dsimp only at h2)
  · omega
  · obtain rfl : i = 1 := by omega
    exact c3
  · rcases (by omega : i = 1 ∨ i = 2) with rfl | rfl
    · exact c3
    · exact c4
  · rcases (by omega : i = 1 ∨ i = 2 ∨ i = 3) with rfl | rfl | rfl
    · exact c3
    · exact c4
    · exact c5
  · omega
theorem runes_inner (l : List UInt8) (hl : l ≠ []) : ∀ d k, 1 ≤ k → k + d = (decodeL l).2 → (runes (l.drop k)).length = d + (runes (l.drop (decodeL l).2)).length
  | 0, k, h1, h => by rw [← h]; simp
  | d + 1, k, h1, h => by
    have hle := decodeL_le l hl
    have hne : l.drop k ≠ [] := by
      intro h2; have := congrArg List.length h2; rw [List.length_drop, List.length_nil] at this; omega
    have hd : decodeL (l.drop k) = (65533, 1) := by
      rw [decodeL_N, getD_dropU]
      exact decodeN_cont _ _ _ _ _ (cont_of h1 (by omega))
    have ih := runes_inner l hl d (k + 1) (by omega) (by omega)
    rw [runes_step hne, hd]
    simp only [List.drop_drop, List.length_cons]
    rw [ih]; omega
/-- A place in bytes is one between runes; or there are more runes of the parts than of the whole. -/
theorem bound_or (l : List UInt8) : ∀ k, k ≤ l.length → (k = bw (runes (l.take k)).length l ∧ (runes (l.take k)).length ≤ (runes l).length) ∨ (runes l).length < (runes (l.take k)).length + (runes (l.drop k)).length := by
  induction l using runes_ind with
  | h l ih =>
    intro k hk
    by_cases h0 : k = 0
    · subst h0; left; simp [runes_nil, bw]
    have hl : l ≠ [] := by intro h; subst h; simp at hk; omega
    have hw := decodeL_width l
    have hle := decodeL_le l hl
    have hne : l.take k ≠ [] := by
      intro h; have := congrArg List.length h; rw [List.length_take, List.length_nil] at this; omega
    by_cases hkw : (decodeL l).2 ≤ k
    · have hd := decodeL_take l k hkw
      have e1 : runes (l.take k) = (decodeL l).1 :: runes ((l.drop (decodeL l).2).take (k - (decodeL l).2)) := by
        rw [runes_step hne, hd, List.drop_take]
      have e2 : l.drop k = (l.drop (decodeL l).2).drop (k - (decodeL l).2) := by rw [List.drop_drop]; congr 1; omega
      have e3 := runes_step hl
      have h := ih hl (k - (decodeL l).2) (by rw [List.length_drop]; omega)
      rw [e1, e2, e3]
      simp only [List.length_cons]
      rcases h with ⟨h1, h2⟩ | h
      · left
        refine ⟨?_, by omega⟩
        rw [bw, if_neg hl, ← h1]; omega
      · right; omega
    · right
      have h1 := runes_pos hne
      have h2 := runes_inner l hl ((decodeL l).2 - k) k (by omega) (by omega)
      rw [h2, runes_step hl, List.length_cons]
      omega
theorem bw_mono : ∀ (i j : Nat) (l : List UInt8), i ≤ j → bw i l ≤ bw j l
  | 0, _, _, _ => by simp [bw]
  | i + 1, 0, _, h => by omega
  | i + 1, j + 1, l, h => by
    unfold bw
    split
    · omega
    · have := bw_mono i j (l.drop (decodeL l).2) (by omega)
      omega
/-- What the document asks of a place to cut at. -/
def condC (l : List UInt8) (n : Int) (k : Nat) : Bool := decide (((runes (l.take k)).length : Int) ≤ n) && decide ((runes (l.take k)).length + (runes (l.drop k)).length = (runes l).length)
theorem cond_le {l : List UInt8} {n : Int} {k : Nat} (hk : k ≤ l.length) (h : condC l n k = true) : k ≤ bw n.toNat l := by
  simp only [condC, Bool.and_eq_true, decide_eq_true_eq] at h
  rcases bound_or l k hk with ⟨h1, h2⟩ | h1
  · rw [h1]; exact bw_mono _ _ _ (by omega)
  · omega
theorem cond_at {l : List UInt8} {n : Int} (h : 1 ≤ bw n.toNat l) : condC l n (bw n.toNat l) = true := by
  have hn : 1 ≤ n := by
    rcases Int.lt_or_le n 1 with h1 | h1
    · have : n.toNat = 0 := by omega
      rw [this] at h; simp [bw] at h
    · exact h1
  simp only [condC, Bool.and_eq_true, decide_eq_true_eq, runes_take, runes_drop, List.length_take, List.length_drop]
  omega
theorem cut_found {l : List UInt8} {n : Int} {k : Nat} (hk1 : 1 ≤ k) (hk : k ≤ l.length) (h : condC l n k = true) (hmax : ∀ j, k < j → j ≤ l.length → condC l n j = false) : cutL n l = l.take k := by
  have h1 := cond_le hk h
  have h2 : bw n.toNat l = k := by
    rcases Nat.lt_or_ge k (bw n.toNat l) with h3 | h3
    · have := hmax _ h3 (bw_le _ _)
      rw [cond_at (by omega)] at this
      exact absurd this (by simp)
    · omega
  unfold cutL; rw [h2]
theorem cut_none {l : List UInt8} {n : Int} (hmax : ∀ j, 0 < j → j ≤ l.length → condC l n j = false) : cutL n l = [] := by
  have h2 : bw n.toNat l = 0 := by
    rcases Nat.lt_or_ge 0 (bw n.toNat l) with h3 | h3
    · have := hmax _ h3 (bw_le _ _)
      rw [cond_at (by omega)] at this
      exact absurd this (by simp)
    · omega
  unfold cutL; rw [h2]; rfl
theorem utf8_encode (r : Nat) (h : okR r) : (Utf8.encode (r : Int)).data.toList = encodeRune (r : Int) := by
  unfold okR at h
  have hv : Utf8.valid (r : Int) = true := by simp [Utf8.valid]; omega
  unfold Utf8.encode
  simp only [hv, if_true, Int.toNat_natCast]
  by_cases h1 : r < 128
  · rw [if_pos h1]
    unfold encodeRune
    rw [encodeRuneZ_one (by omega) (by omega)]
    simp
  by_cases h2 : r < 2048
  · rw [if_neg h1, if_pos h2]
    unfold encodeRune
    rw [encodeRuneZ_two (by omega) (by omega)]
    simp
    exact ⟨by rw [← UInt8.toNat_inj]; simp; omega, by rw [← UInt8.toNat_inj]; simp; omega⟩
  by_cases h3 : r < 65536
  · rw [if_neg h1, if_neg h2, if_pos h3]
    unfold encodeRune
    rw [encodeRuneZ_three (by omega)]
    simp
    exact ⟨by rw [← UInt8.toNat_inj]; simp; omega, by rw [← UInt8.toNat_inj]; simp; omega, by rw [← UInt8.toNat_inj]; simp; omega⟩
  · rw [if_neg h1, if_neg h2, if_neg h3]
    unfold encodeRune
    rw [encodeRuneZ_four (by omega) (by omega)]
    simp
    exact ⟨by rw [← UInt8.toNat_inj]; simp; omega, by rw [← UInt8.toNat_inj]; simp; omega, by rw [← UInt8.toNat_inj]; simp; omega, by rw [← UInt8.toNat_inj]; simp; omega⟩
theorem runesBytes_enc (l : List Nat) (h : ∀ r ∈ l, okR r) : (runesBytes (l.map fun r : Nat => (r : Int))).data.toList = enc l := by
  have : ∀ (l : List Nat), (∀ r ∈ l, okR r) → ∀ s : ByteArray, ((l.map fun r : Nat => (r : Int)).foldl (fun r n => r ++ Utf8.encode n) s).data.toList = s.data.toList ++ enc l := by
    intro l
    induction l with
    | nil => intro _ s; simp [enc]
    | cons x r ih =>
      intro h s
      rw [List.map_cons, List.foldl_cons, ih (fun y hy => h y (List.mem_cons_of_mem _ hy)), enc_cons, ← utf8_encode x (h x (by simp))]
      simp [ByteArray.data_append, List.append_assoc]
  have h2 := this l h ByteArray.empty
  unfold runesBytes
  rw [h2]
  simp
theorem runesFrom_runes (s : ByteArray) (l : List UInt8) (hs : s.data.toList = l) : ∀ n pos (acc : Array Value), l.length ≤ pos + n → Conv.runesFrom s n pos acc = acc ++ ((runes (l.drop pos)).map fun r : Nat => Value.int .i32 (r : Int)).toArray := by
  have hsz : s.size = l.length := by rw [← hs]; cases s; simp [ByteArray.size]
  intro n
  induction n with
  | zero =>
    intro pos acc h
    rw [List.drop_of_length_le (by omega)]
    simp [Conv.runesFrom, runes_nil]
  | succ n ih =>
    intro pos acc h
    unfold Conv.runesFrom
    by_cases hp : pos < s.size
    · have hne : l.drop pos ≠ [] := by
        intro h2; have := congrArg List.length h2; rw [List.length_drop, List.length_nil] at this; omega
      have hd : decodeL (l.drop pos) = Utf8.decode s pos := by rw [← hs]; exact decodeL_drop s pos
      have hw := decode_width_pos s pos hp
      rw [if_pos hp, runes_step hne, hd, List.drop_drop]
      show Conv.runesFrom s n (pos + (Utf8.decode s pos).2) (acc.push (.int .i32 (Int.ofNat (Utf8.decode s pos).1))) = _
      rw [ih _ _ (by omega)]
      apply Array.ext'
      simp
    · rw [if_neg hp, List.drop_of_length_le (by omega)]
      simp [runes_nil]
end Go.Tum.Rn
