/- Runes of texts: the plain mathematics. -/
import Derived.Lib.MapLaws
import Derived.Lib.RuneCount
namespace Go.Tum.Rn
open Go.Lib

theorem dec2 {n b0 b1 b2 b3 : Nat} (h0 : b0 / 32 = 6) (hn : 1 < n) (h1 : b1 / 64 = 2) (hv : 128 ≤ b0 % 32 * 64 + b1 % 64) : decodeN n b0 b1 b2 b3 = (b0 % 32 * 64 + b1 % 64, 2) := by
  unfold decodeN
  rw [if_neg (by omega), if_pos ⟨h0, hn, h1⟩, if_pos hv]
theorem dec3 {n b0 b1 b2 b3 : Nat} (h0 : b0 / 16 = 14) (hn : 2 < n) (h1 : b1 / 64 = 2) (h2 : b2 / 64 = 2) (hv : 2048 ≤ b0 % 16 * 4096 + b1 % 64 * 64 + b2 % 64)
    (hs : b0 % 16 * 4096 + b1 % 64 * 64 + b2 % 64 < 55296 ∨ 57344 ≤ b0 % 16 * 4096 + b1 % 64 * 64 + b2 % 64) : decodeN n b0 b1 b2 b3 = (b0 % 16 * 4096 + b1 % 64 * 64 + b2 % 64, 3) := by
  unfold decodeN
  rw [if_neg (by omega), if_neg (by omega), if_pos ⟨h0, ⟨by omega, h1⟩, by omega, h2⟩, if_pos ⟨hv, by omega⟩]
theorem dec4 {n b0 b1 b2 b3 : Nat} (h0 : b0 / 8 = 30) (hn : 3 < n) (h1 : b1 / 64 = 2) (h2 : b2 / 64 = 2) (h3 : b3 / 64 = 2) (hv : 65536 ≤ b0 % 8 * 262144 + b1 % 64 * 4096 + b2 % 64 * 64 + b3 % 64)
    (hs : b0 % 8 * 262144 + b1 % 64 * 4096 + b2 % 64 * 64 + b3 % 64 ≤ 1114111) : decodeN n b0 b1 b2 b3 = (b0 % 8 * 262144 + b1 % 64 * 4096 + b2 % 64 * 64 + b3 % 64, 4) := by
  unfold decodeN
  rw [if_neg (by omega), if_neg (by omega), if_neg (by omega), if_pos ⟨h0, ⟨by omega, h1⟩, ⟨by omega, h2⟩, by omega, h3⟩, if_pos ⟨hv, by omega⟩]
/-- What stands behind a rune, or is cut off behind it, changes nothing of it. -/
theorem decodeN_cut {n n' b0 b1 b2 b3 c1 c2 c3 : Nat} (hw : (decodeN n b0 b1 b2 b3).2 ≤ n') (hn : n' ≤ n) (e1 : 1 < n' → c1 = b1) (e2 : 2 < n' → c2 = b2) (e3 : 3 < n' → c3 = b3) :
    decodeN n' b0 c1 c2 c3 = decodeN n b0 b1 b2 b3 := by
  rcases decodeN_shape n b0 b1 b2 b3 with ⟨c, e⟩ | ⟨k1, k2, k3, kv, e⟩ | ⟨k1, k2, k3, k4, kv, ks, e⟩ | ⟨k1, k2, k3, k4, k5, kv, kw, e⟩ | e
  · rw [e]; exact decodeN_ascii _ _ _ _ _ c
  · rw [e] at hw ⊢
    have E1 := e1 hw
    subst E1
    exact dec2 k1 hw k3 kv
  · rw [e] at hw ⊢
    dsimp only at hw
    have E1 := e1 (by omega)
    have E2 := e2 (by omega)
    subst E1 E2
    exact dec3 k1 (by omega) k3 k4 kv ks
  · rw [e] at hw ⊢
    dsimp only at hw
    have E1 := e1 (by omega)
    have E2 := e2 (by omega)
    have E3 := e3 (by omega)
    subst E1 E2 E3
    exact dec4 k1 (by omega) k3 k4 k5 kv kw
  · rcases decodeN_shape n' b0 c1 c2 c3 with ⟨c, e'⟩ | ⟨k1, k2, k3, kv, e'⟩ | ⟨k1, k2, k3, k4, kv, ks, e'⟩ | ⟨k1, k2, k3, k4, k5, kv, kw, e'⟩ | e'
    · rw [e', ← decodeN_ascii n b0 b1 b2 b3 c]
    · have E1 := e1 k2
      subst E1
      rw [e', ← dec2 (n := n) (b2 := b2) (b3 := b3) k1 (by omega) k3 kv]
    · have E1 := e1 (by omega)
      have E2 := e2 (by omega)
      subst E1 E2
      rw [e', ← dec3 (n := n) (b3 := b3) k1 (by omega) k3 k4 kv ks]
    · have E1 := e1 (by omega)
      have E2 := e2 (by omega)
      have E3 := e3 (by omega)
      subst E1 E2 E3
      rw [e', ← dec4 (n := n) k1 (by omega) k3 k4 k5 kv kw]
    · rw [e', e]
theorem decodeL_take (l : List UInt8) (k : Nat) (hk : (decodeL l).2 ≤ k) : decodeL (l.take k) = decodeL l := by
  rcases Nat.lt_or_ge l.length k with h | h
  · rw [List.take_of_length_le (by omega)]
  · have hw := decodeL_width l
    rw [decodeL_N] at hk hw
    rw [decodeL_N, decodeL_N l, getD_takeU l k 0 (by omega), List.length_take, Nat.min_eq_left h]
    exact decodeN_cut hk h (fun h => by rw [getD_takeU l k 1 h]) (fun h => by rw [getD_takeU l k 2 h]) (fun h => by rw [getD_takeU l k 3 h])

/-- The runes of bytes. -/
def runesF : Nat → List UInt8 → List Nat
  | 0, _ => []
  | n + 1, l => if l = [] then [] else (decodeL l).1 :: runesF n (l.drop (decodeL l).2)
def runes (l : List UInt8) : List Nat := runesF l.length l
theorem runesF_fuel : ∀ (n m : Nat) (l : List UInt8), l.length ≤ n → l.length ≤ m → runesF n l = runesF m l
  | 0, 0, _, _, _ => rfl
  | 0, m + 1, l, h, _ => by
    obtain rfl : l = [] := List.length_eq_zero_iff.1 (by omega)
    simp [runesF]
  | n + 1, 0, l, _, h => by
    obtain rfl : l = [] := List.length_eq_zero_iff.1 (by omega)
    simp [runesF]
  | n + 1, m + 1, l, h1, h2 => by
    unfold runesF
    by_cases hl : l = []
    · rw [if_pos hl, if_pos hl]
    · have hw := decodeL_width l
      have hp := List.length_pos_iff.2 hl
      rw [if_neg hl, if_neg hl, runesF_fuel n m _ (by simp; omega) (by simp; omega)]
theorem runes_nil : runes [] = [] := rfl
theorem runes_step {l : List UInt8} (hl : l ≠ []) : runes l = (decodeL l).1 :: runes (l.drop (decodeL l).2) := by
  have hw := decodeL_width l
  have hp := List.length_pos_iff.2 hl
  unfold runes
  obtain ⟨n, hn⟩ : ∃ n, l.length = n + 1 := ⟨l.length - 1, by omega⟩
  rw [hn, runesF, if_neg hl, runesF_fuel n (l.drop (decodeL l).2).length _ (by simp; omega) (Nat.le_refl _)]
theorem runes_ind {Q : List UInt8 → Prop} (h : ∀ l, (l ≠ [] → Q (l.drop (decodeL l).2)) → Q l) (l : List UInt8) : Q l := by
  have : ∀ n (l : List UInt8), l.length ≤ n → Q l := by
    intro n
    induction n with
    | zero => exact fun l hl => h l fun hne => absurd (List.length_eq_zero_iff.1 (by omega)) hne
    | succ n ih =>
      intro l hl
      refine h l fun hne => ih _ ?_
      have hw := decodeL_width l
      have hp := List.length_pos_iff.2 hne
      simp; omega
  exact this _ l (Nat.le_refl _)
theorem runes_len (l : List UInt8) : (runes l).length ≤ l.length := by
  induction l using runes_ind with
  | h l ih =>
    by_cases hl : l = []
    · subst hl; simp [runes_nil]
    · have := ih hl
      have hw := decodeL_width l
      have hp := List.length_pos_iff.2 hl
      rw [runes_step hl]
      simp only [List.length_cons, List.length_drop] at this ⊢
      omega
theorem runes_pos {l : List UInt8} (hl : l ≠ []) : 0 < (runes l).length := by rw [runes_step hl]; simp
/-- Bytes of the first n runes. -/
def bw : Nat → List UInt8 → Nat
  | 0, _ => 0
  | n + 1, l => if l = [] then 0 else (decodeL l).2 + bw n (l.drop (decodeL l).2)
theorem bw_le : ∀ (n : Nat) (l : List UInt8), bw n l ≤ l.length
  | 0, _ => by simp [bw]
  | n + 1, l => by
    unfold bw
    by_cases hl : l = []
    · rw [if_pos hl]; omega
    · rw [if_neg hl]
      have h1 := bw_le n (l.drop (decodeL l).2)
      have h2 := decodeL_le l hl
      rw [List.length_drop] at h1
      omega
theorem bw_all : ∀ (n : Nat) (l : List UInt8), (runes l).length ≤ n → bw n l = l.length
  | 0, l, h => by
    by_cases hl : l = []
    · subst hl; rfl
    · have := runes_pos hl; omega
  | n + 1, l, h => by
    unfold bw
    by_cases hl : l = []
    · rw [if_pos hl, hl]; rfl
    · rw [if_neg hl]
      rw [runes_step hl] at h
      have h1 := bw_all n (l.drop (decodeL l).2) (by simpa using h)
      have h2 := decodeL_le l hl
      rw [h1, List.length_drop]
      omega
theorem runes_take : ∀ (n : Nat) (l : List UInt8), runes (l.take (bw n l)) = (runes l).take n
  | 0, l => by simp [bw, runes_nil]
  | n + 1, l => by
    by_cases hl : l = []
    · subst hl; simp [bw, runes_nil]
    · have hw := decodeL_width l
      have hle := decodeL_le l hl
      have h1 : bw (n + 1) l = (decodeL l).2 + bw n (l.drop (decodeL l).2) := by rw [bw, if_neg hl]
      have hne : l.take (bw (n + 1) l) ≠ [] := by
        intro h
        have := congrArg List.length h
        rw [List.length_take, List.length_nil, h1] at this
        have := List.length_pos_iff.2 hl
        omega
      have hd := decodeL_take l (bw (n + 1) l) (by rw [h1]; omega)
      rw [runes_step hne, hd, runes_step hl, List.take_succ_cons, List.drop_take, h1, Nat.add_sub_cancel_left, runes_take n]
theorem runes_drop : ∀ (n : Nat) (l : List UInt8), runes (l.drop (bw n l)) = (runes l).drop n
  | 0, l => by simp [bw]
  | n + 1, l => by
    by_cases hl : l = []
    · subst hl; simp [bw, runes_nil]
    · have h1 : bw (n + 1) l = (decodeL l).2 + bw n (l.drop (decodeL l).2) := by rw [bw, if_neg hl]
      rw [runes_step hl, List.drop_succ_cons, ← runes_drop n, h1, List.drop_drop]

/-- A rune that may be encoded. -/
def okR (r : Nat) : Prop := r < 55296 ∨ 57344 ≤ r ∧ r ≤ 1114111
theorem decodeL_ok (l : List UInt8) : okR (decodeL l).1 := by
  unfold okR
  rw [decodeL_N]
  have k0 := (l.getD 0 0).toNat_lt
  have k1 := (l.getD 1 0).toNat_lt
  rcases decodeN_shape l.length (l.getD 0 0).toNat (l.getD 1 0).toNat (l.getD 2 0).toNat (l.getD 3 0).toNat with ⟨c, e⟩ | ⟨c1, c2, c3, cv, e⟩ | ⟨c1, c2, c3, c4, cv, cs, e⟩ | ⟨c1, c2, c3, c4, c5, cv, cw, e⟩ | e
  all_goals (rw [e]; dsimp only; omega)
theorem runes_ok (l : List UInt8) : ∀ r ∈ runes l, okR r := by
  induction l using runes_ind with
  | h l ih =>
    by_cases hl : l = []
    · subst hl; simp [runes_nil]
    · rw [runes_step hl]
      intro r hr
      rcases List.mem_cons.1 hr with rfl | hr
      · exact decodeL_ok l
      · exact ih hl r hr
theorem b8 (z : Int) (h0 : 0 ≤ z) (h1 : z < 256) : (z.toNat.toUInt8).toNat = z.toNat := by
  have : z.toNat < 256 := by omega
  simp; omega
theorem decode_encode (r : Nat) (hr : okR r) (m : List UInt8) : decodeL (encodeRune r ++ m) = (r, (encodeRune r).length) := by
  unfold okR at hr
  rw [decodeL_N]
  by_cases h1 : r ≤ 127
  · have he : encodeRuneZ (r : Int) = [(r : Int)] := encodeRuneZ_one (by omega) (by omega)
    unfold encodeRune
    rw [he]
    simp only [List.map_cons, List.map_nil, List.cons_append, List.nil_append, List.length_cons, List.length_nil, List.getD_cons_zero]
    rw [b8 _ (by omega) (by omega)]
    exact decodeN_ascii _ _ _ _ _ (by omega)
  by_cases h2 : r ≤ 2047
  · have he : encodeRuneZ (r : Int) = _ := encodeRuneZ_two (by omega) (by omega)
    unfold encodeRune
    rw [he]
    simp only [List.map_cons, List.map_nil, List.cons_append, List.nil_append, List.length_cons, List.length_nil, List.getD_cons_zero, List.getD_cons_succ]
    rw [b8 _ (by omega) (by omega), b8 _ (by omega) (by omega), dec2 (by omega) (by omega) (by omega) (by omega)]
    congr 1; omega
  by_cases h3 : r ≤ 65535
  · have he : encodeRuneZ (r : Int) = _ := encodeRuneZ_three (by omega)
    unfold encodeRune
    rw [he]
    simp only [List.map_cons, List.map_nil, List.cons_append, List.nil_append, List.length_cons, List.length_nil, List.getD_cons_zero, List.getD_cons_succ]
    rw [b8 _ (by omega) (by omega), b8 _ (by omega) (by omega), b8 _ (by omega) (by omega), dec3 (by omega) (by omega) (by omega) (by omega) (by omega) (by omega)]
    congr 1; omega
  · have he : encodeRuneZ (r : Int) = _ := encodeRuneZ_four (by omega) (by omega)
    unfold encodeRune
    rw [he]
    simp only [List.map_cons, List.map_nil, List.cons_append, List.nil_append, List.length_cons, List.length_nil, List.getD_cons_zero, List.getD_cons_succ]
    rw [b8 _ (by omega) (by omega), b8 _ (by omega) (by omega), b8 _ (by omega) (by omega), b8 _ (by omega) (by omega), dec4 (by omega) (by omega) (by omega) (by omega) (by omega) (by omega) (by omega)]
    congr 1; omega
theorem encode_ne (r : Int) : encodeRune r ≠ [] := by
  intro h
  have := (encodeRuneZ_length r).1
  have h2 := congrArg List.length h
  simp [encodeRune] at h2
  rw [h2] at this; simp at this
/-- Runes written, one behind the other. -/
def enc (l : List Nat) : List UInt8 := l.flatMap fun r : Nat => encodeRune (r : Int)
theorem enc_cons (r : Nat) (l : List Nat) : enc (r :: l) = encodeRune r ++ enc l := by simp [enc]
theorem runes_enc : ∀ (l : List Nat), (∀ r ∈ l, okR r) → runes (enc l) = l
  | [], _ => rfl
  | r :: l, h => by
    have hne : enc (r :: l) ≠ [] := by
      rw [enc_cons]; intro h2
      exact encode_ne r (List.append_eq_nil_iff.1 h2).1
    rw [runes_step hne, enc_cons, decode_encode r (h r (by simp)), List.drop_left, runes_enc l fun x hx => h x (List.mem_cons_of_mem _ hx)]
/-- Bytes without a broken rune are what their runes are written as. -/
theorem enc_runes (l : List UInt8) : 65533 ∉ runes l → enc (runes l) = l := by
  induction l using runes_ind with
  | h l ih =>
    intro hn
    by_cases hl : l = []
    · subst hl; rfl
    · rw [runes_step hl] at hn ⊢
      simp only [List.mem_cons, not_or] at hn
      rw [enc_cons, ih hl hn.2, encode_decode l hl (fun h => hn.1 h.1.symm), List.take_append_drop]

/-! ### what the package does -/
def letterB (r : Nat) : Bool := decide (97 ≤ r ∧ r ≤ 122) || (decide (48 ≤ r ∧ r ≤ 57) || decide (945 ≤ r ∧ r ≤ 969))
def rightL (l : List UInt8) : Bool := decide (0 < (runes l).length) && (decide ((runes l).length ≤ 8) && (runes l).all letterB)
def foldN (r : Nat) : Nat := if 65 ≤ r ∧ r ≤ 90 ∨ 913 ≤ r ∧ r ≤ 937 ∧ r ≠ 930 then r + 32 else if r = 962 then 963 else r
def foldI (r : Int) : Int := if 65 ≤ r ∧ r ≤ 90 ∨ 913 ≤ r ∧ r ≤ 937 ∧ r ≠ 930 then r + 32 else if r = 962 then 963 else r
theorem foldI_cast (r : Nat) : foldI r = (foldN r : Nat) := by
  unfold foldI foldN
  repeat' split
  all_goals omega
def foldL (l : List UInt8) : List UInt8 := enc ((runes l).map foldN)
theorem foldN_ok {r : Nat} (h : okR r) : okR (foldN r) := by
  unfold okR foldN at *
  repeat' split
  all_goals omega
theorem foldN_idem (r : Nat) : foldN (foldN r) = foldN r := by
  unfold foldN
  repeat' split
  all_goals omega
theorem foldN_letter {r : Nat} (h : letterB r = true) : letterB (foldN r) = true := by
  simp only [letterB, Bool.or_eq_true, decide_eq_true_eq] at h ⊢
  unfold foldN
  repeat' split
  all_goals omega
theorem mapD_fold (l : List UInt8) : mapD foldI l = foldL l := by
  unfold foldL
  induction l using runes_ind with
  | h l ih =>
    by_cases hl : l = []
    · subst hl; rfl
    · rw [mapD_step _ _ hl, runes_step hl, List.map_cons, enc_cons, ih hl, foldI_cast, if_pos (by omega)]
theorem runes_fold (l : List UInt8) : runes (foldL l) = (runes l).map foldN := by
  refine runes_enc _ fun r hr => ?_
  obtain ⟨x, hx, rfl⟩ := List.mem_map.1 hr
  exact foldN_ok (runes_ok l x hx)
theorem fold_fold (l : List UInt8) : foldL (foldL l) = foldL l := by
  show enc ((runes (foldL l)).map foldN) = foldL l
  rw [runes_fold, List.map_map]
  show enc _ = enc _
  congr 1
  exact List.map_congr_left fun r _ => foldN_idem r
theorem right_fold {l : List UInt8} (h : rightL l = true) : rightL (foldL l) = true := by
  unfold rightL at h ⊢
  rw [runes_fold]
  simp only [Bool.and_eq_true, decide_eq_true_eq, List.length_map, List.all_eq_true, List.mem_map, forall_exists_index, and_imp, forall_apply_eq_imp_iff₂] at h ⊢
  exact ⟨h.1, h.2.1, fun r hr => foldN_letter (h.2.2 r hr)⟩
theorem right_enc {l : List UInt8} (h : rightL l = true) : enc (runes l) = l := by
  refine enc_runes l fun hm => ?_
  unfold rightL at h
  simp only [Bool.and_eq_true, List.all_eq_true] at h
  have := h.2.2 _ hm
  simp [letterB] at this
def cutL (n : Int) (l : List UInt8) : List UInt8 := l.take (bw n.toNat l)
def lessR : List Nat → List Nat → Bool
  | _, [] => false
  | [], _ :: _ => true
  | x :: a, y :: b => if x = y then lessR a b else decide (x < y)
theorem lessR_irrefl : ∀ a, lessR a a = false
  | [] => rfl
  | x :: a => by simp [lessR, lessR_irrefl a]
theorem lessR_asymm : ∀ a b, lessR a b = true → lessR b a = false
  | _, [], h => by simp [lessR] at h
  | [], y :: b, _ => rfl
  | x :: a, y :: b, h => by
    unfold lessR at h ⊢
    by_cases e : x = y
    · rw [if_pos e] at h; rw [if_pos e.symm]; exact lessR_asymm a b h
    · rw [if_neg e] at h; rw [if_neg (Ne.symm e)]; simp at h ⊢; omega
theorem lessR_trans : ∀ a b c, lessR a b = true → lessR b c = true → lessR a c = true
  | _, [], _, h, _ => by simp [lessR] at h
  | _, _ :: _, [], _, h => by simp [lessR] at h
  | [], y :: b, z :: c, _, _ => rfl
  | x :: a, y :: b, z :: c, h1, h2 => by
    unfold lessR at h1 h2 ⊢
    by_cases e1 : x = y
    · subst e1
      by_cases e2 : x = z
      · subst e2
        rw [if_pos rfl] at h1 h2 ⊢
        exact lessR_trans a b c h1 h2
      · rw [if_neg e2] at h2 ⊢; exact h2
    · rw [if_neg e1] at h1
      by_cases e2 : y = z
      · subst e2; rw [if_neg e1]; exact h1
      · rw [if_neg e2] at h2
        simp at h1 h2
        rw [if_neg (by omega)]; simp; omega
theorem lessR_total : ∀ a b, a ≠ b → lessR a b = false → lessR b a = true
  | [], [], h, _ => absurd rfl h
  | x :: a, [], _, _ => rfl
  | [], y :: b, _, h => by simp [lessR] at h
  | x :: a, y :: b, h, h2 => by
    unfold lessR at h2 ⊢
    by_cases e : x = y
    · subst e
      rw [if_pos rfl] at h2 ⊢
      exact lessR_total a b (fun h3 => h (by rw [h3])) h2
    · rw [if_neg e] at h2; rw [if_neg (Ne.symm e)]; simp at h2 ⊢; omega
theorem right_inj {a b : List UInt8} (ha : rightL a = true) (hb : rightL b = true) (h : runes a = runes b) : a = b := by
  rw [← right_enc ha, ← right_enc hb, h]
theorem runeCount_runes (s : ByteArray) : runeCount s = (runes s.data.toList).length := by
  have hsz : s.size = s.data.toList.length := by cases s; simp [ByteArray.size]
  have : ∀ n pos, s.size ≤ pos + n → runeCountFrom s n pos = (runes (s.data.toList.drop pos)).length := by
    intro n
    induction n with
    | zero =>
      intro pos h
      rw [List.drop_of_length_le (by omega)]; rfl
    | succ n ih =>
      intro pos h
      unfold runeCountFrom
      by_cases hp : pos < s.size
      · have hne : s.data.toList.drop pos ≠ [] := by
          intro h2; have := congrArg List.length h2; simp at this; omega
        have hw := decode_width_pos s pos hp
        rw [if_pos hp, ih _ (by omega), runes_step hne, decodeL_drop, List.drop_drop, List.length_cons]; omega
      · rw [if_neg hp, List.drop_of_length_le (by omega)]; rfl
  have h := this s.size 0 (by omega)
  simpa [runeCount] using h
end Go.Tum.Rn
