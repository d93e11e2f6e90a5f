/- Frames: the plain mathematics. -/
import Derived.Test.YtijpokajhjhllaaGreatDoorCrcB
namespace Go.Tum.Crc

structure Fr where
  kind : UInt8
  body : List UInt8
deriving DecidableEq
def hd (x : Fr) : List UInt8 := [x.kind, UInt8.ofNat (x.body.length % 256), UInt8.ofNat (x.body.length / 256 % 256)]
def fbytes (x : Fr) : List UInt8 := put (hd x) ++ put x.body
def flen (b : List UInt8) : Nat := (b.getD 1 0).toNat + 256 * (b.getD 2 0).toNat
abbrev f0 : Fr := ⟨0, []⟩
def fread (b : List UInt8) : Fr × Nat × Int :=
  if b.length < 7 then (f0, 0, 3)
  else if isPut (b.take 7) = false then (f0, 0, 8)
  else if 400 < flen b then (f0, 0, 2)
  else if b.length < flen b + 11 then (f0, 0, 3)
  else if isPut ((b.drop 7).take (flen b + 4)) = false then (f0, 0, 8)
  else (⟨b.getD 0 0, (b.drop 7).take (flen b)⟩, flen b + 11, 0)

theorem hd_length (x : Fr) : (hd x).length = 3 := rfl
theorem fbytes_length (x : Fr) : (fbytes x).length = x.body.length + 11 := by simp [fbytes, put_length, hd_length]; omega
theorem fbytes_head (x : Fr) (m : List UInt8) : (fbytes x ++ m).take 7 = put (hd x) := by
  unfold fbytes
  rw [List.append_assoc, List.take_append_of_le_length (by simp [put_length, hd_length])]
  exact List.take_of_length_le (by simp [put_length, hd_length])
theorem fbytes_tail (x : Fr) (m : List UInt8) : (fbytes x ++ m).drop 7 = put x.body ++ m := by
  unfold fbytes
  rw [List.append_assoc, List.drop_append_of_le_length (by simp [put_length, hd_length])]
  rw [show (put (hd x)).drop 7 = [] from List.drop_of_length_le (by simp [put_length, hd_length])]; rfl
theorem get_of_take {b c : List UInt8} {n j : Nat} (h : b.take n = c) (hj : j < n) : b.getD j 0 = c.getD j 0 := by
  subst h
  simp only [List.getD_eq_getElem?_getD]
  rw [List.getElem?_take, if_pos hj]
theorem put_hd_get (x : Fr) : (put (hd x)).getD 0 0 = x.kind ∧ (put (hd x)).getD 1 0 = UInt8.ofNat (x.body.length % 256) ∧ (put (hd x)).getD 2 0 = UInt8.ofNat (x.body.length / 256 % 256) := ⟨rfl, rfl, rfl⟩
theorem flen_of {b : List UInt8} {x : Fr} (h : b.take 7 = put (hd x)) (hx : x.body.length ≤ 400) : flen b = x.body.length := by
  unfold flen
  rw [get_of_take h (by omega), get_of_take h (by omega), (put_hd_get x).2.1, (put_hd_get x).2.2]
  simp
  omega

/-- What is behind whole bytes of a frame changes nothing. -/
theorem fread_fbytes (x : Fr) (m : List UInt8) (hx : x.body.length ≤ 400) : fread (fbytes x ++ m) = (x, x.body.length + 11, 0) := by
  have hh := fbytes_head x m
  have ht := fbytes_tail x m
  have hl := fbytes_length x
  have hf := flen_of hh hx
  unfold fread
  rw [if_neg (by simp; omega), hh, if_neg (by simp [isPut_put]), hf, if_neg (by omega), if_neg (by simp; omega), ht]
  have h4 : (put x.body ++ m).take (x.body.length + 4) = put x.body := by
    rw [List.take_append_of_le_length (by simp [put_length])]; exact List.take_of_length_le (by simp [put_length])
  rw [h4, if_neg (by simp [isPut_put])]
  have hb : (put x.body ++ m).take x.body.length = x.body := by
    unfold put
    rw [List.append_assoc, List.take_append_of_le_length (by simp), List.take_of_length_le (by simp)]
  rw [hb, get_of_take hh (by omega), (put_hd_get x).1]

theorem fread_short (x : Fr) (k : Nat) (hx : x.body.length ≤ 400) (hk : k < x.body.length + 11) : fread ((fbytes x).take k) = (f0, 0, 3) := by
  have hl := fbytes_length x
  unfold fread
  by_cases h7 : k < 7
  · rw [if_pos (by simp; omega)]
  · rw [if_neg (by simp; omega)]
    have hh : ((fbytes x).take k).take 7 = put (hd x) := by
      rw [List.take_take, Nat.min_eq_left (by omega)]
      simpa using fbytes_head x []
    rw [hh, if_neg (by simp [isPut_put]), flen_of hh hx, if_neg (by omega), if_pos (by simp; omega)]

/-- Nothing of a frame's reading is longer than the bytes. -/
theorem fread_le (b : List UInt8) (h : (fread b).2.2 = 0) : 11 ≤ (fread b).2.1 ∧ (fread b).2.1 ≤ b.length := by
  unfold fread at h ⊢
  repeat' split
  all_goals simp_all
theorem fread_err (b : List UInt8) (h : (fread b).2.2 ≠ 0) : (fread b).1 = f0 ∧ (fread b).2.1 = 0 := by
  unfold fread at h ⊢
  repeat' split
  all_goals simp_all
theorem fread_e (b : List UInt8) : (fread b).2.2 = 0 ∨ (fread b).2.2 = 2 ∨ (fread b).2.2 = 3 ∨ (fread b).2.2 = 8 := by
  unfold fread
  repeat' split
  all_goals simp
/-- What is read is of just those bytes. -/
theorem fread_app (b m : List UInt8) (h : (fread b).2.2 = 0) : fread (b ++ m) = fread b := by
  have e1 : ∀ j, j < 7 → 7 ≤ b.length → (b ++ m).getD j 0 = b.getD j 0 := by
    intro j hj hb
    simp only [List.getD_eq_getElem?_getD]
    rw [List.getElem?_append_left (by omega)]
  unfold fread at h ⊢
  by_cases h1 : b.length < 7
  · simp [h1] at h
  have e2 : (b ++ m).take 7 = b.take 7 := List.take_append_of_le_length (by omega)
  have e3 : flen (b ++ m) = flen b := by unfold flen; rw [e1 1 (by omega) (by omega), e1 2 (by omega) (by omega)]
  have e4 : (b ++ m).drop 7 = b.drop 7 ++ m := List.drop_append_of_le_length (by omega)
  rw [if_neg h1] at h ⊢
  rw [if_neg (by simp; omega), e2, e3, e4, e1 0 (by omega) (by omega)]
  by_cases h2 : isPut (b.take 7) = false
  · simp [h2] at h
  rw [if_neg h2] at h ⊢
  rw [if_neg h2]
  by_cases h3 : 400 < flen b
  · simp [h3] at h
  rw [if_neg h3] at h ⊢
  rw [if_neg h3]
  by_cases h4 : b.length < flen b + 11
  · simp [h4] at h
  rw [if_neg h4, if_neg (by simp; omega)]
  have e5 : ∀ k, k ≤ flen b + 4 → (b.drop 7 ++ m).take k = (b.drop 7).take k := fun k hk => List.take_append_of_le_length (by simp; omega)
  rw [e5 _ (by omega), e5 _ (by omega)]

/-- All frames of bytes, by fuel. -/
def fallF : Nat → List UInt8 → List Fr × Nat × Int
  | 0, _ => ([], 0, 0)
  | n + 1, b => if b = [] then ([], 0, 0) else if (fread b).2.2 = 0 then ((fread b).1 :: (fallF n (b.drop (fread b).2.1)).1, (fread b).2.1 + (fallF n (b.drop (fread b).2.1)).2.1, (fallF n (b.drop (fread b).2.1)).2.2) else ([], 0, (fread b).2.2)
def fall (b : List UInt8) : List Fr × Nat × Int := fallF b.length b
theorem fallF_fuel : ∀ (n m : Nat) (b : List UInt8), b.length ≤ n → b.length ≤ m → fallF n b = fallF m b
  | 0, 0, _, _, _ => rfl
  | 0, m + 1, b, h, _ => by
    obtain rfl : b = [] := List.length_eq_zero_iff.1 (by omega)
    simp [fallF]
  | n + 1, 0, b, _, h => by
    obtain rfl : b = [] := List.length_eq_zero_iff.1 (by omega)
    simp [fallF]
  | n + 1, m + 1, b, h1, h2 => by
    unfold fallF
    by_cases hb : b = []
    · rw [if_pos hb, if_pos hb]
    · rw [if_neg hb, if_neg hb]
      by_cases he : (fread b).2.2 = 0
      · have := fread_le b he
        rw [if_pos he, if_pos he, fallF_fuel n m (b.drop (fread b).2.1) (by simp; omega) (by simp; omega)]
      · rw [if_neg he, if_neg he]
theorem fall_nil : fall [] = ([], 0, 0) := rfl
theorem fall_err {b : List UInt8} (hb : b ≠ []) (he : (fread b).2.2 ≠ 0) : fall b = ([], 0, (fread b).2.2) := by
  have hl := List.length_pos_iff.2 hb
  unfold fall
  obtain ⟨n, hn⟩ : ∃ n, b.length = n + 1 := ⟨b.length - 1, by omega⟩
  rw [hn, fallF, if_neg hb, if_neg he]
theorem fall_ok {b : List UInt8} (hb : b ≠ []) (he : (fread b).2.2 = 0) :
    fall b = ((fread b).1 :: (fall (b.drop (fread b).2.1)).1, (fread b).2.1 + (fall (b.drop (fread b).2.1)).2.1, (fall (b.drop (fread b).2.1)).2.2) := by
  have hl := List.length_pos_iff.2 hb
  have h2 := fread_le b he
  unfold fall
  obtain ⟨n, hn⟩ : ∃ n, b.length = n + 1 := ⟨b.length - 1, by omega⟩
  rw [hn, fallF, if_neg hb, if_pos he, fallF_fuel n (b.drop (fread b).2.1).length _ (by simp; omega) (Nat.le_refl _)]
/-- How a loop goes on: what has been read, and what is left. -/
theorem fall_ind {Q : List UInt8 → Prop} (h : ∀ b, (b ≠ [] → (fread b).2.2 = 0 → Q (b.drop (fread b).2.1)) → Q b) (b : List UInt8) : Q b := by
  generalize hn : b.length = n
  induction n using Nat.strongRecOn generalizing b with
  | ind n ih =>
    refine h b fun hb he => ih _ ?_ _ rfl
    have := fread_le b he
    have := List.length_pos_iff.2 hb
    simp; omega
theorem fall_le (b : List UInt8) : (fall b).2.1 ≤ b.length ∧ (fall b).1.length ≤ b.length ∧ ((fall b).2.2 = 0 ↔ (fall b).2.1 = b.length) := by
  induction b using fall_ind with
  | h b ih =>
    by_cases hb : b = []
    · subst hb; simp [fall_nil]
    · by_cases he : (fread b).2.2 = 0
      · have h1 := ih hb he
        have h2 := fread_le b he
        rw [fall_ok hb he]
        simp only [List.length_drop, List.length_cons] at h1 ⊢
        refine ⟨by omega, by omega, ?_⟩
        rw [h1.2.2]; omega
      · have hl := List.length_pos_iff.2 hb
        rw [fall_err hb he]
        simp only [List.length_nil]
        refine ⟨by omega, by omega, ?_⟩
        constructor
        · intro h; exact absurd h he
        · intro h; omega
theorem fall_append (a b : List UInt8) (h : (fall a).2.2 = 0) : fall (a ++ b) = ((fall a).1 ++ (fall b).1, a.length + (fall b).2.1, (fall b).2.2) := by
  induction a using fall_ind with
  | h a ih =>
    by_cases ha : a = []
    · subst ha; simp [fall_nil]
    · by_cases he : (fread a).2.2 = 0
      · have h2 := fread_le a he
        have hab : a ++ b ≠ [] := by simp [ha]
        have hr := fread_app a b he
        rw [fall_ok ha he] at h
        have h1 := ih ha he h
        rw [fall_ok ha he, fall_ok hab (by rw [hr]; exact he), hr]
        rw [List.drop_append_of_le_length (by omega), h1]
        simp only [List.length_drop, List.cons_append, Prod.mk.injEq, true_and, and_true]
        omega
      · rw [fall_err ha he] at h
        exact absurd h he
end Go.Tum.Crc
