/- Arguments of the log's laws.
Frames that are turned, torn: the plain mathematics.
The frame's reading of an argument that is a record.
Records one behind the other, cut: the plain mathematics; rows of records as arguments. -/
import Derived.Test.YtmbigiihcplcjaaGreatDoorFrmM
import Derived.Test.YtmbigiihcplcjaaGreatDoorRecGB
import Derived.Test.YtmbigiihcplcjaaGreatDoorOpen
import Derived.Lib.SmallJoins
import Derived.Test.YtmbigiihcplcjaaGreatDoorRecM
import Derived.Test.YtmbigiihcplcjaaGreatDoorRecGC
namespace Go.Tum.Crc

theorem flip_take (l : List UInt8) (k n : Nat) : (flip l k).take n = if k / 8 < n then flip (l.take n) k else l.take n := by
  unfold flip
  by_cases h : k / 8 < n
  · rw [if_pos h, List.take_set]
    congr 2
    simp only [List.getD_eq_getElem?_getD]
    rw [List.getElem?_take, if_pos h]
  · rw [if_neg h, List.take_set_of_le (by omega)]
theorem flip_drop (l : List UInt8) (k n : Nat) : (flip l k).drop n = if n ≤ k / 8 then flip (l.drop n) (k - 8 * n) else l.drop n := by
  unfold flip
  by_cases h : n ≤ k / 8
  · have e1 : (k - 8 * n) / 8 = k / 8 - n := by omega
    have e2 : (k - 8 * n) % 8 = k % 8 := by omega
    rw [if_pos h, e1, e2, List.drop_set, if_neg (by omega)]
    congr 2
    simp only [List.getD_eq_getElem?_getD]
    rw [List.getElem?_drop]
    congr 2; omega
  · rw [if_neg h, List.drop_set, if_pos (by omega)]
theorem turnN_take (at_ : Int) (t : Nat) (l : List UInt8) (n : Nat) (hn : n ≤ l.length) : ∀ i, (turnN at_ t l i).take n = turnN at_ t (l.take n) i
  | 0 => rfl
  | i + 1 => by
    have ih := turnN_take at_ t l n hn i
    have hl : (l.take n).length = n := by simp; omega
    unfold turnN
    by_cases h : turnHit at_ t i l.length = true
    · rw [if_pos h, flip_take, ih]
      simp only [turnHit, Bool.and_eq_true, decide_eq_true_eq] at h
      by_cases h2 : (at_ + i).toNat / 8 < n
      · rw [if_pos h2, if_pos (by simp only [turnHit, Bool.and_eq_true, decide_eq_true_eq, hl]; exact ⟨⟨h.1.1, h.1.2⟩, by omega⟩)]
      · rw [if_neg h2, if_neg (by simp only [turnHit, Bool.and_eq_true, decide_eq_true_eq, hl]; intro h3; omega)]
    · rw [if_neg h, ih, if_neg (by
        simp only [turnHit, Bool.and_eq_true, decide_eq_true_eq, hl] at h ⊢
        intro h3; exact h ⟨h3.1, by omega⟩)]
theorem turnN_drop (at_ : Int) (t : Nat) (l : List UInt8) (n : Nat) (hn : n ≤ l.length) : ∀ i, (turnN at_ t l i).drop n = turnN (at_ - 8 * n) t (l.drop n) i
  | 0 => rfl
  | i + 1 => by
    have ih := turnN_drop at_ t l n hn i
    have hl : (l.drop n).length = l.length - n := by simp
    unfold turnN
    by_cases h : turnHit at_ t i l.length = true
    · rw [if_pos h, flip_drop, ih]
      simp only [turnHit, Bool.and_eq_true, decide_eq_true_eq] at h
      by_cases h2 : n ≤ (at_ + i).toNat / 8
      · rw [if_pos h2, if_pos (by simp only [turnHit, Bool.and_eq_true, decide_eq_true_eq, hl]; exact ⟨⟨h.1.1, by omega⟩, by omega⟩)]
        congr 1; omega
      · rw [if_neg h2, if_neg (by simp only [turnHit, Bool.and_eq_true, decide_eq_true_eq, hl]; intro h3; omega)]
    · rw [if_neg h, ih, if_neg (by
        simp only [turnHit, Bool.and_eq_true, decide_eq_true_eq, hl] at h ⊢
        intro h3; exact h ⟨⟨h3.1.1, by omega⟩, by omega⟩)]

/-- A frame that is turned is none. -/
theorem fread_turned (x : Fr) (hx : x.body.length ≤ 400) (at_ : Int) (t : Nat) (more : List UInt8) (hne : turnN at_ t (fbytes x) 32 ≠ fbytes x) :
    fread (turnN at_ t (fbytes x) 32 ++ more) = (f0, 0, 8) := by
  have hlen := fbytes_length x
  have hpl := turnN_length at_ t (fbytes x) 32
  have h1 := turnN_take at_ t (fbytes x) 7 (by omega) 32
  have h2 := turnN_drop at_ t (fbytes x) 7 (by omega) 32
  have e1 : (fbytes x).take 7 = put (hd x) := by simpa using fbytes_head x []
  have e2 : (fbytes x).drop 7 = put x.body := by simpa using fbytes_tail x []
  rw [e1] at h1
  rw [e2] at h2
  have hA : (turnN at_ t (fbytes x) 32 ++ more).take 7 = turnN at_ t (put (hd x)) 32 := by
    rw [List.take_append_of_le_length (by omega), h1]
  unfold fread
  rw [if_neg (by simp; omega), hA]
  by_cases hh : turnN at_ t (put (hd x)) 32 = put (hd x)
  · rw [hh, if_neg (by simp [isPut_put])]
    rw [hh] at hA
    have hf := flen_of hA hx
    rw [hf, if_neg (by omega), if_neg (by simp; omega)]
    have hB : ((turnN at_ t (fbytes x) 32 ++ more).drop 7).take (x.body.length + 4) = turnN (at_ - 8 * (7 : Nat)) t (put x.body) 32 := by
      rw [List.drop_append_of_le_length (by omega), h2, List.take_append_of_le_length (by rw [turnN_length]; simp [put_length])]
      exact List.take_of_length_le (by rw [turnN_length]; simp [put_length])
    rw [hB, if_pos]
    refine burst _ _ _ (isPut_put _) fun h3 => hne ?_
    rw [← List.take_append_drop 7 (turnN at_ t (fbytes x) 32), h1, h2, hh, h3]
    rfl
  · rw [if_pos (burst _ _ _ (isPut_put _) hh)]

/-- Frames one behind the other: where each ends. -/
def fcat : List Fr → List UInt8
  | [] => []
  | x :: r => fbytes x ++ fcat r
def fends : Nat → List Fr → List Nat
  | _, [] => []
  | k, x :: r => (k + (x.body.length + 11)) :: fends (k + (x.body.length + 11)) r
/-- How many are whole ahead of a cut, and where the last one ends. -/
def wholes (cut : Nat) : List Nat → Nat × Nat → Nat × Nat
  | [], s => s
  | e :: r, s => wholes cut r (if e ≤ cut then (s.1 + 1, e) else s)
theorem wholes_none (cut : Nat) : ∀ (l : List Fr) (k : Nat) (s : Nat × Nat), cut < k → wholes cut (fends k l) s = s
  | [], _, _, _ => rfl
  | x :: r, k, s, h => by
    simp only [fends, wholes]
    rw [if_neg (by omega)]
    exact wholes_none cut r _ s (by omega)
theorem fall_torn : ∀ (l : List Fr) (c : Nat), (∀ x ∈ l, x.body.length ≤ 400) → c ≤ (fcat l).length →
    ∀ (k n : Nat), wholes (k + c) (fends k l) (n, k) = (n + (fall ((fcat l).take c)).1.length, k + (fall ((fcat l).take c)).2.1) ∧ (fall ((fcat l).take c)).1 = l.take (fall ((fcat l).take c)).1.length ∧
      (fall ((fcat l).take c)).2.1 ≤ c ∧ ((fall ((fcat l).take c)).2.1 < c → (fall ((fcat l).take c)).2.2 = 3)
  | [], c, _, hc, k, n => by
    obtain rfl : c = 0 := by simpa [fcat] using hc
    simp [fcat, fends, wholes, fall_nil]
  | x :: r, c, hl, hc, k, n => by
    have hx := hl x (by simp)
    have hlx := fbytes_length x
    simp only [fcat, List.length_append] at hc
    by_cases h : c < x.body.length + 11
    · have e1 : (fbytes x ++ fcat r).take c = (fbytes x).take c := List.take_append_of_le_length (by omega)
      simp only [fcat, e1, fends, wholes]
      rw [if_neg (by omega), wholes_none _ _ _ _ (by omega)]
      by_cases h0 : c = 0
      · subst h0; simp [fall_nil]
      · have hne : (fbytes x).take c ≠ [] := by intro h1; have := congrArg List.length h1; rw [List.length_take, List.length_nil] at this; omega
        have hs := fread_short x c hx h
        rw [fall_err hne (by rw [hs]; decide), hs]
        simp
    · have hr := fread_fbytes x ((fcat r).take (c - (x.body.length + 11))) hx
      have e1 : (fbytes x ++ fcat r).take c = fbytes x ++ (fcat r).take (c - (x.body.length + 11)) := by
        rw [List.take_append]
        rw [List.take_of_length_le (by omega), hlx]
      have hne : fbytes x ++ (fcat r).take (c - (x.body.length + 11)) ≠ [] := by intro h1; have := congrArg List.length h1; rw [List.length_append, List.length_nil] at this; omega
      have ed : (fbytes x ++ (fcat r).take (c - (x.body.length + 11))).drop (x.body.length + 11) = (fcat r).take (c - (x.body.length + 11)) := by rw [← hlx, List.drop_left]
      have ih := fall_torn r (c - (x.body.length + 11)) (fun y hy => hl y (List.mem_cons_of_mem _ hy)) (by omega) (k + (x.body.length + 11)) (n + 1)
      simp only [fcat, e1, fends, wholes]
      rw [if_pos (by omega), fall_ok hne (by rw [hr]), hr]
      simp only [ed]
      generalize fall ((fcat r).take (c - (x.body.length + 11))) = F at ih ⊢
      have ec : k + (x.body.length + 11) + (c - (x.body.length + 11)) = k + c := by omega
      rw [ec] at ih
      refine ⟨?_, ?_, ?_, ?_⟩
      · rw [ih.1]; simp only [List.length_cons, Prod.mk.injEq]; omega
      · simp only [List.length_cons, List.take_succ_cons, List.cons.injEq, true_and]; exact ih.2.1
      · have := ih.2.2.1; omega
      · intro h3; exact ih.2.2.2 (by omega)
theorem fcat_snoc : ∀ (l : List Fr) (x : Fr), fcat (l ++ [x]) = fcat l ++ fbytes x
  | [], x => by simp [fcat]
  | y :: r, x => by simp only [List.cons_append, fcat]; rw [fcat_snoc r x, List.append_assoc]
theorem fends_snoc : ∀ (l : List Fr) (x : Fr) (k : Nat), fends k (l ++ [x]) = fends k l ++ [k + (fcat l).length + (x.body.length + 11)]
  | [], x, k => by simp [fends, fcat]
  | y :: r, x, k => by
    simp only [List.cons_append, fends, fcat, List.length_append, fbytes_length]
    rw [fends_snoc r x _]
    congr 3; omega
theorem fends_length : ∀ (l : List Fr) (k : Nat), (fends k l).length = l.length
  | [], _ => rfl
  | y :: r, k => by simp only [fends, List.length_cons]; rw [fends_length r]
theorem fends_le : ∀ (l : List Fr) (k : Nat), ∀ e ∈ fends k l, e ≤ k + (fcat l).length
  | [], _, e, h => absurd h (by simp [fends])
  | y :: r, k, e, h => by
    simp only [fends, List.mem_cons] at h
    simp only [fcat, List.length_append, fbytes_length]
    rcases h with rfl | h
    · omega
    · have := fends_le r _ e h; omega
theorem fcat_le : ∀ (l : List Fr), (∀ x ∈ l, x.body.length ≤ 400) → (fcat l).length ≤ 411 * l.length
  | [], _ => by simp [fcat]
  | y :: r, h => by
    have h1 := h y (by simp)
    have h2 := fcat_le r (fun x hx => h x (List.mem_cons_of_mem _ hx))
    simp only [fcat, List.length_append, fbytes_length, List.length_cons]; omega
theorem wholes_append (c : Nat) : ∀ (a b : List Nat) (s : Nat × Nat), wholes c (a ++ b) s = wholes c b (wholes c a s)
  | [], _, _ => rfl
  | e :: r, b, s => by simp only [List.cons_append, wholes]; rw [wholes_append c r b]
theorem wholes_le (c : Nat) : ∀ (a : List Nat) (s : Nat × Nat), (wholes c a s).1 ≤ s.1 + a.length
  | [], s => by simp [wholes]
  | e :: r, s => by
    simp only [wholes, List.length_cons]
    by_cases h : e ≤ c
    · rw [if_pos h]; have := wholes_le c r (s.1 + 1, e); simp only at this; omega
    · rw [if_neg h]; have := wholes_le c r s; omega
end Go.Tum.Crc

set_option maxRecDepth 100000
namespace Go.Proofs.YtmbigiihcplcjaaGreatDoor
open Go.RowKit Go.Tum Go.Tum.Crc Go.ChangeShapes Go.WideShapes Go.ChangeAt

section
variable {H : Type} {enc : TypeId × Value → H} {w : World} {base : Nat} {held : Bool}
theorem open_rec {v : Value} {d : DataW H} {p : List MemPlace} {r : Reach} {b0 : Nat} (hval : Value.okWide Tryz.prog w r b0 41 v) (h : DataW.Trod enc Tryz.prog w base (fun _ => true) held 41 v d p) :
    ∃ (x : Rc) (u : Value), v = rv x u ∧ Vec uv w u x.n := by
  obtain ⟨x0, x1, x2, y0, y1, y2, n, rfl, -, -, h0, h1, h2⟩ := Joins.open_agg3 Tryz.underlying41 (by kernel_rfl) (by kernel_rfl) hval h
  obtain ⟨a, e, -, -⟩ := DataW.trod_int Tryz.underlying3 h0
  simp at e; subst e
  obtain ⟨s, e, -, -⟩ := DataW.trod_string Tryz.underlying9 h2
  simp at e; subst e
  have hs : str s.data.toList = s := by
    apply ByteArray.ext
    simp [str]
  obtain ⟨l, hl⟩ : ∃ l : List UInt64, Vec uv w x1 l := by
    rcases open_ints Tryz.underlying39 Tryz.underlying22 (by kernel_rfl) h1 with ⟨h0, _⟩ | ⟨a, len, cap, zs, hcs, hb, hl, hm, hz, hx, hcell, hw⟩
    · simp at h0; subst h0
      exact vec_of_row_u64 (.inl ⟨rfl, rfl, rfl, rfl⟩)
    · simp at hcs; subst hcs
      exact vec_of_row_u64 (.inr ⟨a, rfl, hl, hm, by simpa using hz, hcell, hw⟩)
  refine ⟨⟨a, l, s.data.toList⟩, x1, ?_, hl⟩
  show _ = Value.agg #[.int .i64 a, x1, .string (str s.data.toList)]
  rw [hs]
end

/-- What the row's list gives: the table. -/
def tabZ : List Int := [0, 0, 5, 2, 1, 2, 2, 1, 1, 1, 1, 1, 5, 7, 10, 2, 1, 1]
theorem tabZ_at : ∀ i : Fin 18, tabZ.getD i.val 0 = ((manyT.getD i.val 0 : Nat) : Int) := by decide
end Go.Proofs.YtmbigiihcplcjaaGreatDoor

set_option maxRecDepth 100000
namespace Go.Tum.Crc
open Go.Tum Go.Tum.Vint

theorem recs_map : ∀ (l : List Rc) (k : Nat) (e : Int), (∀ x ∈ l, rightB x = true) → recs k (l.map recFr) e = (l, fends k (l.map recFr), e)
  | [], _, _, _ => rfl
  | x :: r, k, e, h => by
    have hx := recRead_fr (h x (by simp))
    have ih := recs_map r (k + ((recFr x).body.length + 11)) e fun y hy => h y (List.mem_cons_of_mem _ hy)
    simp only [List.map_cons, recs, fends, hx, ih]
    simp
theorem fall_end (b : List UInt8) : (fall b).2.1 = (fcat (fall b).1).length := by
  induction b using fall_ind with
  | h b ih =>
    by_cases hb : b = []
    · subst hb; simp [fall_nil, fcat]
    · by_cases he : (fread b).2.2 = 0
      · rw [fall_ok hb he]
        have h2 := ih hb he
        rw [fread_size b he] at h2
        simp only [fcat, List.length_append, fbytes_length, fread_size b he, h2]
      · rw [fall_err hb he]; simp [fcat]
theorem fends_at : ∀ (l : List Fr) (k i : Nat) (h : i < (fends k l).length), (fends k l)[i] = k + (fcat (l.take (i + 1))).length
  | [], k, i, h => absurd h (by simp [fends])
  | x :: r, k, 0, h => by simp [fends, fcat, fbytes_length]
  | x :: r, k, i + 1, h => by
    simp only [fends, List.getElem_cons_succ, List.take_succ_cons, fcat, List.length_append, fbytes_length]
    rw [fends_at r _ i (by simpa [fends] using h)]
    omega
/-- How many of the lengths are no more than a cut. -/
def wcount (cut : Int) : List Nat → Nat
  | [] => 0
  | e :: r => (if (e : Int) ≤ cut then 1 else 0) + wcount cut r
theorem wcount_snoc (cut : Int) : ∀ (l : List Nat) (e : Nat), wcount cut (l ++ [e]) = wcount cut l + (if (e : Int) ≤ cut then 1 else 0)
  | [], e => by simp [wcount]
  | x :: r, e => by simp only [List.cons_append, wcount, wcount_snoc cut r e]; omega
theorem wcount_wholes (cut : Int) (c : Nat) : ∀ (l : List Nat) (s : Nat × Nat), (∀ e ∈ l, ((e : Int) ≤ cut ↔ e ≤ c)) → (wholes c l s).1 = s.1 + wcount cut l
  | [], s, _ => by simp [wholes, wcount]
  | e :: r, s, h => by
    have he := h e (by simp)
    have hr := fun s => wcount_wholes cut c r s fun y hy => h y (List.mem_cons_of_mem _ hy)
    simp only [wholes, wcount]
    rw [hr]
    by_cases h1 : e ≤ c
    · rw [if_pos h1, if_pos (he.2 h1)]; simp only; omega
    · rw [if_neg h1, if_neg (fun h2 => h1 (he.1 h2))]; omega
theorem wcount_le (cut : Int) : ∀ (l : List Nat), wcount cut l ≤ l.length
  | [] => by simp [wcount]
  | e :: r => by
    have := wcount_le cut r
    simp only [wcount, List.length_cons]
    split <;> omega
theorem fends_pos : ∀ (l : List Fr) (k : Nat), ∀ e ∈ fends k l, 11 ≤ e
  | [], _, e, h => absurd h (by simp [fends])
  | y :: r, k, e, h => by
    simp only [fends, List.mem_cons] at h
    rcases h with rfl | h
    · omega
    · exact fends_pos r _ e h
/-- What the law says of records that may be, cut. -/
theorem rall_torn (l : List Rc) (hl : ∀ x ∈ l, rightB x = true) (cut : Int) (c : Nat) (B : List UInt8) (hB : fcat (l.map recFr) = B)
    (hc : c = (min (max cut 0) (B.length : Int)).toNat) :
    ∃ n at_ e, n ≤ l.length ∧ wcount cut (fends 0 (l.map recFr)) = n ∧ rall 0 (B.take c) = (l.take n, fends 0 ((l.take n).map recFr), e) ∧ at_ ≤ c ∧ (fcat ((l.take n).map recFr)).length = at_ ∧
      (e = 0 ∨ e = 3) ∧ (e = 0 ↔ at_ = c) ∧ c ≤ B.length := by
  subst hB
  generalize hL : l.map recFr = L at *
  have hLb : ∀ x ∈ L, x.body.length ≤ 400 := by
    intro x hx
    rw [← hL] at hx
    obtain ⟨y, hy, rfl⟩ := List.mem_map.1 hx
    exact body_le (hl y hy)
  have hcl : c ≤ (fcat L).length := by omega
  have ht := fall_torn L c hLb hcl 0 0
  have hlen : (fends 0 L).length = L.length := fends_length L 0
  obtain ⟨F1, F2, F3, hF⟩ : ∃ F1 F2 F3, fall ((fcat L).take c) = (F1, F2, F3) := ⟨_, _, _, rfl⟩
  have hfe := fall_end ((fcat L).take c)
  have hfl := fall_le ((fcat L).take c)
  have hra := recs_fall ((fcat L).take c) 0
  rw [hF] at ht hfe hfl hra
  simp only [Nat.zero_add] at ht hfe hfl hra
  obtain ⟨h1, h2, h3, h4⟩ := ht
  have hw := wcount_wholes cut c (fends 0 L) (0, 0) (by
    intro e he
    have := fends_pos L 0 e he
    have := fends_le L 0 e he
    omega)
  rw [h1] at hw
  simp only [Nat.zero_add] at hw
  have hle : F1.length ≤ L.length := by have := wcount_le cut (fends 0 L); omega
  have hll : L.length = l.length := by rw [← hL]; simp
  have hF1 : F1 = (l.take F1.length).map recFr := by
    rw [List.map_take, hL]; exact h2
  have hr2 : recs 0 F1 F3 = (l.take F1.length, fends 0 F1, F3) := by
    have := recs_map (l.take F1.length) 0 F3 fun x hx => hl x (List.mem_of_mem_take hx)
    rwa [← hF1] at this
  rw [hr2] at hra
  have h5 := hfl.2.2
  refine ⟨F1.length, F2, F3, by omega, hw.symm, ?_, h3, ?_, ?_, ?_, hcl⟩
  · rw [← hra, ← hF1]
  · rw [← hF1]; exact hfe.symm
  · rcases Nat.lt_or_ge F2 c with h | h
    · exact .inr (h4 h)
    · left; rw [h5]; simp; omega
  · rw [h5]; simp; omega
end Go.Tum.Crc
namespace Go.Proofs.YtmbigiihcplcjaaGreatDoor
open Go Go.RowKit Go.Tum Go.Tum.Crc Go.WideShapes Go.ChangeShapes

theorem ofNat_toNatList (s : ByteArray) : str s.data.toList = s := by
  apply ByteArray.ext
  simp [str]
section
variable {H : Type} {enc : TypeId × Value → H} {w : World} {base : Nat} {held : Bool}
theorem open_recs {v : Value} {d : DataW H} {p : List MemPlace} {r : Reach} {b0 : Nat} (hval : Value.okWide Tryz.prog w r b0 66 v) (h : DataW.Trod enc Tryz.prog w base (fun _ => true) held 66 v d p) :
    ∃ l : List Rc, Rcs w v l := by
  obtain ⟨a, len, cap, rfl⟩ := okWide_slice Tryz.underlying66 hval
  obtain ⟨fuel, hf⟩ := h
  replace hf : DataW.trod enc Tryz.prog w base (fun _ => true) held fuel 66 [.slice a len cap] = some (d, p) := hf
  rcases open_slice_fields Tryz.underlying66 Tryz.underlying41 (by kernel_rfl) (by kernel_rfl) hf with ⟨h0, _⟩ | ⟨a, len, cap, m, D, Pl, hcs, hb, hl, hm, hmm, hx, hi⟩
  · simp at h0
    obtain ⟨rfl, rfl, rfl⟩ := h0
    exact ⟨[], [], rfl, RowsOf.nil _ _ _, fun p hp => absurd hp (by simp)⟩
  · simp at hcs
    obtain ⟨rfl, rfl, rfl⟩ := hcs
    simp at hmm
    subst hmm
    have hrow : ∀ i, i < len → ∃ q : Rc × Value, Vec uv w q.2 q.1.n ∧ ∀ j u, (rcells q)[j]? = some u → w.cell? (a.add (i * 3 + j)) = some u := by
      intro i hil
      obtain ⟨ys, n, -, -, -, hfj⟩ := hi i (by omega)
      obtain ⟨u0, y0, k0, -, t0⟩ := hfj 0 _ rfl
      obtain ⟨u1, y1, k1, -, t1⟩ := hfj 1 _ rfl
      obtain ⟨u2, y2, k2, -, t2⟩ := hfj 2 _ rfl
      obtain ⟨z, e, -, hw⟩ := DataW.trod_int Tryz.underlying3 t0
      simp at e; subst e
      obtain ⟨l, hl⟩ : ∃ l : List UInt64, Vec uv w u1 l := by
        rcases open_ints Tryz.underlying39 Tryz.underlying22 (by kernel_rfl) t1 with ⟨h0, _⟩ | ⟨a, len, cap, zs, hcs, hb, hl, hm, hz, hx, hcell, hw⟩
        · simp at h0; subst h0
          exact vec_of_row_u64 (.inl ⟨rfl, rfl, rfl, rfl⟩)
        · simp at hcs; subst hcs
          exact vec_of_row_u64 (.inr ⟨a, rfl, hl, hm, by simpa using hz, hcell, hw⟩)
      obtain ⟨s, e, -, -⟩ := DataW.trod_string Tryz.underlying9 t2
      simp at e; subst e
      refine ⟨(⟨z, l, s.data.toList⟩, u1), hl, fun j u hu => ?_⟩
      match j, hu with
      | 0, hu => simp at hu; subst hu; exact k0
      | 1, hu => simp at hu; subst hu; exact k1
      | 2, hu => simp [ofNat_toNatList] at hu; subst hu; exact k2
    obtain ⟨q, hq, hQ⟩ := list_of len hrow
    refine ⟨q.map (·.1), q, rfl, RowsOf.mk' hq hl hm (by decide) (fun _ _ => rfl) (fun i h j u hu => (hQ i h).2 j u hu), ?_⟩
    intro p hp
    obtain ⟨i, hil, rfl⟩ := List.mem_iff_getElem.1 hp
    exact (hQ i hil).1
end
end Go.Proofs.YtmbigiihcplcjaaGreatDoor

set_option linter.unusedSimpArgs false
set_option linter.unusedVariables false
set_option maxRecDepth 100000
namespace Go.Proofs.YtmbigiihcplcjaaGreatDoor
open Go Go.RowKit Go.Tum Go.ChangeMaps Go.WideShapes Go.ChangeShapes

theorem u64_of15 {n : Int} (h : (Lit.int .u64 n).wf = true) : ∃ x : UInt64, n = (x.toNat : Int) := by
  obtain ⟨t, rfl, ht⟩ := u64_wf h
  exact ⟨UInt64.ofNat t, by rw [UInt64.toNat_ofNat']; omega⟩
theorem vec_of_row_i15 {w : World} {a : Option Addr} {len cap : Nat} {zs : List Int}
    (h : (a = none ∧ len = 0 ∧ cap = 0 ∧ zs = []) ∨ ∃ ad, a = some ad ∧ len ≤ cap ∧ cap ≤ maxLen ∧ zs.length = cap ∧ (∀ i, i < zs.length → w.cell? (ad.add i) = some (.int .i64 (zs.getD i 0))) ∧ ∀ z ∈ zs, (Lit.int .i64 z).wf = true) :
    ∃ l : List Int, Vec Go.Tum.iv w (.slice a len cap) l ∧ ∀ t ∈ l, -9223372036854775808 ≤ t ∧ t ≤ 9223372036854775807 := by
  rcases h with ⟨rfl, rfl, rfl, rfl⟩ | ⟨ad, rfl, hl, hm, hz, hc, hw⟩
  · exact ⟨[], Vec.nil _, fun t ht => by simp at ht⟩
  · refine ⟨zs.take len, ⟨by simp, some ad, cap, by rw [List.length_take, Nat.min_eq_left (by omega)], by rw [List.length_take]; omega, hm, fun h => (by cases h), fun b hb j u hu => ?_⟩, fun t ht => ?_⟩
    · cases hb
      rw [List.getElem?_map, List.getElem?_take] at hu
      split at hu
      · rename_i hj
        have hjz : j < zs.length := by omega
        rw [List.getElem?_eq_getElem hjz] at hu
        simp at hu
        subst hu
        rw [hc j hjz]
        simp [List.getD, List.getElem?_eq_getElem hjz]
      · simp at hu
    · exact i64_wf (hw t (List.mem_of_mem_take ht))
section
variable {H : Type} {enc : TypeId × Value → H} {w : World} {base : Nat} {held : Bool}
theorem open_iv15 {v : Value} {d : DataW H} {p : List MemPlace} {r : Reach} {b0 : Nat} (hval : Value.okWide Tryz.prog w r b0 42 v) (h : DataW.Trod enc Tryz.prog w base (fun _ => true) held 42 v d p) :
    ∃ l : List Int, Vec Go.Tum.iv w v l ∧ ∀ t ∈ l, -9223372036854775808 ≤ t ∧ t ≤ 9223372036854775807 := by
  obtain ⟨a, len, cap, rfl⟩ := okWide_slice Tryz.underlying42 hval
  obtain ⟨fuel, hf⟩ := h
  replace hf : DataW.trod enc Tryz.prog w base (fun _ => true) held fuel 42 [.slice a len cap] = some (d, p) := hf
  rcases Go.ChangeShapes.open_ints Tryz.underlying42 Tryz.underlying3 (by kernel_rfl) hf with ⟨h0, _⟩ | ⟨a, len, cap, zs, hcs, hb, hl, hm, hz, hx, hcell, hw⟩
  · simp at h0
    obtain ⟨rfl, rfl, rfl⟩ := h0
    exact vec_of_row_i15 (.inl ⟨rfl, rfl, rfl, rfl⟩)
  · simp at hcs
    obtain ⟨rfl, rfl, rfl⟩ := hcs
    exact vec_of_row_i15 (.inr ⟨a, rfl, hl, hm, by simpa using hz, hcell, hw⟩)
end
end Go.Proofs.YtmbigiihcplcjaaGreatDoor

