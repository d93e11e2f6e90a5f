/- Records: the plain mathematics. -/
import Derived.Test.YtijpokajhjhllaaGreatDoorFrmM
import Derived.Test.YtijpokajhjhllaaGreatDoorVintM
namespace Go.Tum.Crc
open Go.Tum Go.Tum.Vint

structure Rc where
  kind : Int
  n : List UInt64
  text : List UInt8
deriving DecidableEq
abbrev r0 : Rc := ⟨0, [], []⟩
def manyT : List Nat := [0, 0, 5, 2, 1, 2, 2, 1, 1, 1, 1, 1, 5, 7, 10, 2, 1, 1]
def many (k : Int) : Nat := manyT.getD k.toNat 0
def knownB (k : Int) : Bool := decide (1 ≤ k) && decide (k ≤ 17)
def textB (k : Int) (n : Nat) : Bool := if k = 10 ∨ k = 11 ∨ k = 16 then decide (n ≤ 64) else decide (n = 0)
def rightB (r : Rc) : Bool := knownB r.kind && decide (r.n.length = many r.kind) && textB r.kind r.text.length
def recBody (r : Rc) : List UInt8 := vall r.n ++ r.text
def recFr (r : Rc) : Fr := ⟨UInt8.ofNat r.kind.toNat, recBody r⟩
def recBytes (r : Rc) : List UInt8 × Int := if rightB r then (fbytes (recFr r), 0) else ([], 1)

/-- k numbers of bytes, and what is left. -/
def gets : Nat → List UInt8 → List UInt64 × List UInt8 × Nat
  | 0, b => ([], b, 0)
  | k + 1, b => if (vget b).2.2 ≠ 0 then ([], [], (vget b).2.2) else
      if (gets k (b.drop (vget b).2.1)).2.2 ≠ 0 then ([], [], (gets k (b.drop (vget b).2.1)).2.2)
      else (UInt64.ofNat (vget b).1 :: (gets k (b.drop (vget b).2.1)).1, (gets k (b.drop (vget b).2.1)).2.1, 0)
def recRead (x : Fr) : Rc × Int :=
  if knownB x.kind.toNat = false then (r0, 2)
  else if (gets (many x.kind.toNat) x.body).2.2 ≠ 0 then (r0, (gets (many x.kind.toNat) x.body).2.2)
  else if textB x.kind.toNat (gets (many x.kind.toNat) x.body).2.1.length = false then (r0, 2)
  else (⟨x.kind.toNat, (gets (many x.kind.toNat) x.body).1, (gets (many x.kind.toNat) x.body).2.1⟩, 0)

theorem u64_ofNat (x : UInt64) : UInt64.ofNat x.toNat = x := UInt64.ofNat_toNat
theorem gets_vall : ∀ (l : List UInt64) (m : List UInt8), gets l.length (vall l ++ m) = (l, m, 0)
  | [], m => by simp [gets, vall]
  | x :: r, m => by
    have hg := vget_put x.toNat x.toNat_lt (vall r ++ m)
    have e : vall (x :: r) ++ m = vput x.toNat ++ (vall r ++ m) := by rw [vall_cons, List.append_assoc]
    simp only [List.length_cons, gets]
    rw [e, hg]
    simp only [ne_eq, not_true_eq_false, if_false]
    rw [List.drop_left, gets_vall r m]
    simp
theorem gets_ok : ∀ (k : Nat) (b : List UInt8), (gets k b).2.2 = 0 → (gets k b).1.length = k ∧ b = vall (gets k b).1 ++ (gets k b).2.1
  | 0, b, _ => by simp [gets, vall]
  | k + 1, b, h => by
    simp only [gets] at h ⊢
    by_cases h1 : (vget b).2.2 = 0
    · rw [if_neg (by simp [h1])] at h ⊢
      by_cases h2 : (gets k (b.drop (vget b).2.1)).2.2 = 0
      · rw [if_neg (by simp [h2])] at h ⊢
        obtain ⟨i1, i2⟩ := gets_ok k (b.drop (vget b).2.1) h2
        have hg := vget_ok (l := b) (n := (vget b).1) (u := (vget b).2.1) (by rw [← h1])
        refine ⟨by simp [i1], ?_⟩
        have hn : (UInt64.ofNat (vget b).1).toNat = (vget b).1 := by
          rw [UInt64.toNat_ofNat']; exact Nat.mod_eq_of_lt hg.1
        rw [vall_cons, hn, List.append_assoc, ← i2]
        exact hg.2.2
      · rw [if_pos h2] at h; exact absurd h h2
    · rw [if_pos h1] at h; exact absurd h h1

theorem many_le (k : Int) : many k ≤ 10 := by
  unfold many
  rcases Nat.lt_or_ge k.toNat 18 with h | h
  · have : ∀ i : Fin 18, manyT.getD i.val 0 ≤ 10 := by decide
    exact this ⟨k.toNat, h⟩
  · simp only [List.getD_eq_getElem?_getD]
    rw [List.getElem?_eq_none (by simpa [manyT] using h)]; simp
theorem textB_le {k : Int} {n : Nat} (h : textB k n = true) : n ≤ 64 := by
  unfold textB at h
  split at h <;> (simp at h; omega)
theorem body_le {r : Rc} (h : rightB r = true) : (recBody r).length ≤ 400 := by
  simp only [rightB, Bool.and_eq_true, decide_eq_true_eq] at h
  have h1 := vall_len r.n
  have h2 := many_le r.kind
  have h3 := textB_le h.2
  simp only [recBody, List.length_append]; omega
theorem kind_back {k : Int} (h : knownB k = true) : ((UInt8.ofNat k.toNat).toNat : Int) = k := by
  simp only [knownB, Bool.and_eq_true, decide_eq_true_eq] at h
  have : k.toNat < 256 := by omega
  simp; omega
theorem recRead_fr {r : Rc} (h : rightB r = true) : recRead (recFr r) = (r, 0) := by
  have h' := h
  simp only [rightB, Bool.and_eq_true, decide_eq_true_eq] at h'
  obtain ⟨⟨hk, hn⟩, ht⟩ := h'
  have hkb := kind_back hk
  have hg := gets_vall r.n r.text
  unfold recRead recFr
  simp only [hkb]
  rw [hn] at hg
  have hg' : gets (many r.kind) (recBody r) = (r.n, r.text, 0) := hg
  rw [if_neg (by simp [hk]), hg', if_neg (by simp), if_neg (by simp [ht])]
theorem recRead_ok {x : Fr} (h : (recRead x).2 = 0) : rightB (recRead x).1 = true ∧ recFr (recRead x).1 = x := by
  unfold recRead at h ⊢
  by_cases h1 : knownB x.kind.toNat = false
  · rw [if_pos h1] at h; simp at h
  rw [if_neg h1] at h ⊢
  by_cases h2 : (gets (many x.kind.toNat) x.body).2.2 = 0
  · rw [if_neg (by simp [h2])] at h ⊢
    by_cases h3 : textB x.kind.toNat (gets (many x.kind.toNat) x.body).2.1.length = false
    · rw [if_pos h3] at h; simp at h
    · rw [if_neg h3]
      obtain ⟨g1, g2⟩ := gets_ok _ _ h2
      refine ⟨?_, ?_⟩
      · simp only [rightB, Bool.and_eq_true, decide_eq_true_eq]
        exact ⟨⟨by simpa using h1, g1⟩, by simpa using h3⟩
      · have e1 : UInt8.ofNat ((x.kind.toNat : Int)).toNat = x.kind := by simp
        have e2 : recBody ⟨x.kind.toNat, (gets (many x.kind.toNat) x.body).1, (gets (many x.kind.toNat) x.body).2.1⟩ = x.body := g2.symm
        unfold recFr
        rw [e2]
        simp only [e1]
  · rw [if_pos h2] at h
    simp at h
    exact absurd h h2
theorem recRead_err {x : Fr} (h : (recRead x).2 ≠ 0) : (recRead x).1 = r0 := by
  unfold recRead at h ⊢
  repeat' split
  all_goals simp_all

/-- The records of bytes, where each ends (from k on), and the error at which they end; by fuel. -/
def rallF : Nat → Nat → List UInt8 → List Rc × List Nat × Int
  | 0, _, _ => ([], [], 0)
  | f + 1, k, b => if b = [] then ([], [], 0) else if (fread b).2.2 ≠ 0 then ([], [], (fread b).2.2) else if (recRead (fread b).1).2 ≠ 0 then ([], [], (recRead (fread b).1).2)
      else ((recRead (fread b).1).1 :: (rallF f (k + (fread b).2.1) (b.drop (fread b).2.1)).1, (k + (fread b).2.1) :: (rallF f (k + (fread b).2.1) (b.drop (fread b).2.1)).2.1, (rallF f (k + (fread b).2.1) (b.drop (fread b).2.1)).2.2)
def rall (k : Nat) (b : List UInt8) : List Rc × List Nat × Int := rallF b.length k b
theorem rallF_fuel : ∀ (n m k : Nat) (b : List UInt8), b.length ≤ n → b.length ≤ m → rallF n k b = rallF m k b
  | 0, 0, _, _, _, _ => rfl
  | 0, m + 1, k, b, h, _ => by
    obtain rfl : b = [] := List.length_eq_zero_iff.1 (by omega)
    simp [rallF]
  | n + 1, 0, k, b, _, h => by
    obtain rfl : b = [] := List.length_eq_zero_iff.1 (by omega)
    simp [rallF]
  | n + 1, m + 1, k, b, h1, h2 => by
    unfold rallF
    by_cases hb : b = []
    · rw [if_pos hb, if_pos hb]
    · rw [if_neg hb, if_neg hb]
      by_cases he : (fread b).2.2 = 0
      · have := fread_le b he
        have e := rallF_fuel n m (k + (fread b).2.1) (b.drop (fread b).2.1) (by simp; omega) (by simp; omega)
        have hn : ¬ (fread b).2.2 ≠ 0 := by simp [he]
        rw [if_neg hn, if_neg hn, e]
      · rw [if_pos he, if_pos he]
theorem rall_nil (k : Nat) : rall k [] = ([], [], 0) := rfl
theorem rall_bad {k : Nat} {b : List UInt8} (hb : b ≠ []) (he : (fread b).2.2 ≠ 0) : rall k b = ([], [], (fread b).2.2) := by
  have hl := List.length_pos_iff.2 hb
  unfold rall
  obtain ⟨n, hn⟩ : ∃ n, b.length = n + 1 := ⟨b.length - 1, by omega⟩
  rw [hn, rallF, if_neg hb, if_pos he]
theorem rall_form {k : Nat} {b : List UInt8} (hb : b ≠ []) (he : (fread b).2.2 = 0) (hr : (recRead (fread b).1).2 ≠ 0) : rall k b = ([], [], (recRead (fread b).1).2) := by
  have hl := List.length_pos_iff.2 hb
  unfold rall
  obtain ⟨n, hn⟩ : ∃ n, b.length = n + 1 := ⟨b.length - 1, by omega⟩
  rw [hn, rallF, if_neg hb, if_neg (by simp [he]), if_pos hr]
theorem rall_ok {k : Nat} {b : List UInt8} (hb : b ≠ []) (he : (fread b).2.2 = 0) (hr : (recRead (fread b).1).2 = 0) :
    rall k b = ((recRead (fread b).1).1 :: (rall (k + (fread b).2.1) (b.drop (fread b).2.1)).1, (k + (fread b).2.1) :: (rall (k + (fread b).2.1) (b.drop (fread b).2.1)).2.1, (rall (k + (fread b).2.1) (b.drop (fread b).2.1)).2.2) := by
  have hl := List.length_pos_iff.2 hb
  have h2 := fread_le b he
  unfold rall
  obtain ⟨n, hn⟩ : ∃ n, b.length = n + 1 := ⟨b.length - 1, by omega⟩
  rw [hn, rallF, if_neg hb, if_neg (by simp [he]), if_neg (by simp [hr]), rallF_fuel n (b.drop (fread b).2.1).length _ _ (by simp; omega) (Nat.le_refl _)]

/-- The document's way: the frames first, then the record of each. -/
def recs : Nat → List Fr → Int → List Rc × List Nat × Int
  | _, [], e => ([], [], e)
  | k, x :: r, e => if (recRead x).2 ≠ 0 then ([], [], (recRead x).2) else ((recRead x).1 :: (recs (k + (x.body.length + 11)) r e).1, (k + (x.body.length + 11)) :: (recs (k + (x.body.length + 11)) r e).2.1, (recs (k + (x.body.length + 11)) r e).2.2)
theorem fread_size (b : List UInt8) (h : (fread b).2.2 = 0) : (fread b).2.1 = (fread b).1.body.length + 11 := by
  have hl := fread_le b h
  unfold fread at h hl ⊢
  by_cases h1 : b.length < 7
  · rw [if_pos h1] at h; simp at h
  rw [if_neg h1] at h hl ⊢
  by_cases h2 : isPut (b.take 7) = false
  · rw [if_pos h2] at h; simp at h
  rw [if_neg h2] at h hl ⊢
  by_cases h3 : 400 < flen b
  · rw [if_pos h3] at h; simp at h
  rw [if_neg h3] at h hl ⊢
  by_cases h4 : b.length < flen b + 11
  · rw [if_pos h4] at h; simp at h
  rw [if_neg h4] at h hl ⊢
  by_cases h5 : isPut ((b.drop 7).take (flen b + 4)) = false
  · rw [if_pos h5] at h; simp at h
  rw [if_neg h5]
  simp; omega
theorem recs_fall (b : List UInt8) : ∀ k, recs k (fall b).1 (fall b).2.2 = rall k b := by
  induction b using fall_ind with
  | h b ih =>
    intro k
    by_cases hb : b = []
    · subst hb; simp [fall_nil, recs, rall_nil]
    · by_cases he : (fread b).2.2 = 0
      · rw [fall_ok hb he]
        simp only [recs]
        by_cases hr : (recRead (fread b).1).2 = 0
        · rw [if_neg (by simp [hr]), rall_ok hb he hr, fread_size b he]
          have := ih hb he (k + ((fread b).1.body.length + 11))
          rw [fread_size b he] at this
          rw [this]
        · rw [if_pos hr, rall_form hb he hr]
      · rw [fall_err hb he, rall_bad hb he]
        simp [recs]
end Go.Tum.Crc
