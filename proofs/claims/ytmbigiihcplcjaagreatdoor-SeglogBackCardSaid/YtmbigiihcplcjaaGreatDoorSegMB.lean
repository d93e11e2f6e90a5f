/- The log of segments: the places that the laws note.
The log of segments, as the laws fill it: mathematics.
The log of segments: what is sure. -/
import Derived.Test.YtmbigiihcplcjaaGreatDoorSegMM
set_option linter.unusedSimpArgs false
set_option linter.unusedVariables false
namespace Go.Proofs.YtmbigiihcplcjaaGreatDoor
open Go Go.RowKit Go.Tum Go.ChangeMaps Go.Tum.Crc Go.Nam

def fsOpn (a k : Nat) : List Chg := (List.range k).map fun i => ⟨[], segN (a + i), some i⟩
/-- A disk whose files are segments a, a + 1, .. -/
def fsS (R a : Nat) (L : List (List UInt8)) : PS := ⟨R, L.map fun b => (b, 0), [], fsOpn a L.length, -1, false⟩
theorem fsOpn_succ (a k : Nat) : fsOpn a (k + 1) = fsOpn a k ++ [⟨[], segN (a + k), some k⟩] := by
  unfold fsOpn
  rw [List.range_succ, List.map_append]
  rfl
theorem fs_step (a k : Nat) : dirAt [] (fsOpn a (k + 1)) = inN (noN (noN (dirAt [] (fsOpn a k)) []) (segN (a + k))) (segN (a + k)) k := by
  rw [fsOpn_succ]
  unfold dirAt
  rw [List.foldl_append]
  rfl
structure FsD (a k : Nat) (d : Dir) : Prop where
  lk : ∀ i, i < k → look d (segN (a + i)) = some i
  no : ∀ y, (∀ i, i < k → y ≠ segN (a + i)) → look d y = none
  ln : d.length = k
theorem fs_dir (a : Nat) : ∀ k, a + k ≤ 10000000000 → FsD a k (dirAt [] (fsOpn a k))
  | 0, _ => ⟨fun i h => absurd h (by omega), fun y _ => rfl, rfl⟩
  | k + 1, h => by
    have ih := fs_dir a k (by omega)
    rw [fs_step]
    have e1 : noN (dirAt [] (fsOpn a k)) [] = dirAt [] (fsOpn a k) := noN_same (ih.no [] fun i hi e => segN_ne _ e.symm)
    have hn : look (dirAt [] (fsOpn a k)) (segN (a + k)) = none := ih.no _ fun i hi e => by
      have := segN_inj (by omega) (by omega) e
      omega
    have e2 : noN (dirAt [] (fsOpn a k)) (segN (a + k)) = dirAt [] (fsOpn a k) := noN_same hn
    rw [e1, e2]
    refine ⟨fun i hi => ?_, fun y hy => ?_, by rw [inN_len, ih.ln]⟩
    · rw [look_inN hn]
      by_cases e : i = k
      · subst e; rw [if_pos rfl]
      · rw [if_neg (fun q => e (by have := segN_inj (by omega) (by omega) q; omega)), ih.lk i (by omega)]
    · rw [look_inN hn, if_neg (hy k (by omega))]
      exact ih.no y fun i hi => hy i (by omega)
theorem fsS_dir (R a : Nat) (L : List (List UInt8)) : (fsS R a L).dir = dirAt [] (fsOpn a L.length) := rfl
theorem fs_new (a k : Nat) : newOf (fsOpn a k) = List.range k := by
  induction k with
  | zero => rfl
  | succ k ih =>
    rw [fsOpn_succ, newOf_append, ih, List.range_succ]
    rfl
theorem sum_range (L : List (List UInt8)) (fs : List (List UInt8 × Nat)) (h : fs.map Prod.fst = L) : sumL fs (List.range L.length) = (L.map List.length).sum := by
  unfold sumL
  congr 1
  refine List.ext_getElem (by simp) fun i h1 h2 => ?_
  have hl : fs.length = L.length := by rw [← h, List.length_map]
  have hi : i < L.length := by simpa using h2
  rw [List.getElem_map, List.getElem_range, List.getElem_map]
  unfold flen
  rw [List.getD_eq_getElem?_getD, List.getElem?_eq_getElem (by omega)]
  have : (fs.map Prod.fst)[i]'(by rw [List.length_map]; omega) = L[i] := by simp only [h]
  rw [List.getElem_map] at this
  rw [Option.getD_some, this]
theorem fs_held (R a : Nat) (L : List (List UInt8)) : held (fsS R a L) = (L.map List.length).sum := by
  unfold held cntd
  show sumL (L.map fun b => (b, 0)) ([] ++ newOf (fsOpn a L.length)) = _
  rw [fs_new, List.nil_append]
  exact sum_range L _ (by rw [List.map_map]; exact List.map_id' _)
theorem doP_go {s : PS} {e : Nat} {act : PS → PS} (hd : s.down = false) (he : e = 0) (hf : s.fuse = -1) : doP s e act = (0, act { s with fuse := -1 }) := by
  unfold doP
  rw [if_neg (by rw [hd]; decide), if_neg (by simp [he]), if_neg (by rw [hf]; decide), hf]
  rfl
theorem fs_cre (R a : Nat) (L : List (List UInt8)) (h : a + L.length < 10000000000) (hl : L.length < 60) : creP (fsS R a L) (segN (a + L.length)) = (0, fsS R a (L ++ [[]])) := by
  have hD := fs_dir a L.length (by omega)
  have he : creE (fsS R a L) (segN (a + L.length)) = 0 := by
    unfold creE
    have hn : look (fsS R a L).dir (segN (a + L.length)) = none := hD.no _ fun i hi e => by
      have := segN_inj (by omega) (by omega) e
      omega
    rw [segN_ok h, hn, if_neg (by decide), if_neg (by decide), if_neg (by rw [fsS_dir, hD.ln]; omega)]
  unfold creP
  rw [doP_go rfl he rfl]
  unfold fsS
  simp only [List.length_append, List.length_singleton, List.map_append, List.length_map, List.map_cons, List.map_nil, fsOpn_succ]
theorem fs_look (R a : Nat) (L : List (List UInt8)) {i : Nat} (h : a + L.length ≤ 10000000000) (hi : i < L.length) : look (fsS R a L).dir (segN (a + i)) = some i := (fs_dir a L.length h).lk i hi
theorem mod_last {α : Type} (l : List α) (x : α) (g : α → α) : (l ++ [x]).modify l.length g = l ++ [g x] := by
  refine List.ext_getElem (by simp) fun i h1 h2 => ?_
  rw [List.getElem_modify]
  by_cases e : l.length = i
  · subst e
    simp
  · rw [if_neg e]
    have : i < l.length := by simp at h2; omega
    rw [List.getElem_append_left this, List.getElem_append_left this]
theorem fs_app (R a : Nat) (D : List (List UInt8)) (c b : List UInt8) (h : a + D.length < 10000000000) (hr : ((D ++ [c]).map List.length).sum + b.length ≤ R) :
    appP (fsS R a (D ++ [c])) (segN (a + D.length)) b = (0, fsS R a (D ++ [c ++ b])) := by
  have hk := fs_look R a (D ++ [c]) (i := D.length) (by simp; omega) (by simp)
  have he : appE (fsS R a (D ++ [c])) (segN (a + D.length)) b = 0 := by
    unfold appE
    rw [hk, if_neg (by simp), fs_held, if_neg]
    show ¬ R < _
    omega
  unfold appP
  rw [doP_go rfl he rfl]
  refine Prod.ext rfl ?_
  show ({ fsS R a (D ++ [c]) with fuse := -1, files := setF (fsS R a (D ++ [c])).files (look (fsS R a (D ++ [c])).dir (segN (a + D.length))) fun x => (x.1 ++ b, x.2) } : PS) = _
  rw [hk]
  show ({ fsS R a (D ++ [c]) with fuse := -1, files := ((D ++ [c]).map fun b => (b, 0)).modify D.length fun x => (x.1 ++ b, x.2) } : PS) = _
  have : ((D ++ [c]).map fun b => (b, 0)).modify D.length (fun x => (x.1 ++ b, x.2)) = (D ++ [c ++ b]).map fun b => (b, 0) := by
    rw [List.map_append, List.map_append]
    have := mod_last (D.map fun b : List UInt8 => (b, 0)) (c, 0) fun x => (x.1 ++ b, x.2)
    rw [List.length_map] at this
    exact this
  rw [this]
  unfold fsS
  simp only [List.length_append, List.length_singleton]
theorem fs_cut (R a : Nat) (D : List (List UInt8)) (c : List UInt8) (k : Nat) (h : a + D.length < 10000000000) (hk : k ≤ c.length) :
    cutP (fsS R a (D ++ [c])) (segN (a + D.length)) (k : Int) = (0, fsS R a (D ++ [c.take k])) := by
  have hl := fs_look R a (D ++ [c]) (i := D.length) (by simp; omega) (by simp)
  have hf : flen (fsS R a (D ++ [c])).files D.length = c.length := by
    show flen ((D ++ [c]).map fun b => (b, 0)) D.length = _
    unfold flen
    rw [List.map_append, List.getD_eq_getElem?_getD, List.getElem?_append_right (by simp)]
    simp
  have he : cutE (fsS R a (D ++ [c])) (segN (a + D.length)) (k : Int) = 0 := by
    unfold cutE
    rw [hl]
    dsimp only
    rw [hf, if_neg (by omega)]
  unfold cutP
  rw [doP_go rfl he rfl]
  refine Prod.ext rfl ?_
  show ({ fsS R a (D ++ [c]) with fuse := -1, files := setF (fsS R a (D ++ [c])).files (look (fsS R a (D ++ [c])).dir (segN (a + D.length))) fun x => (x.1.take (k : Int).toNat, min x.2 (k : Int).toNat) } : PS) = _
  rw [hl]
  show ({ fsS R a (D ++ [c]) with fuse := -1, files := ((D ++ [c]).map fun b => (b, 0)).modify D.length fun x => (x.1.take (k : Int).toNat, min x.2 (k : Int).toNat) } : PS) = _
  have : ((D ++ [c]).map fun b => (b, 0)).modify D.length (fun x => (x.1.take (k : Int).toNat, min x.2 (k : Int).toNat)) = (D ++ [c.take k]).map fun b => (b, 0) := by
    rw [List.map_append, List.map_append]
    have := mod_last (D.map fun b : List UInt8 => (b, 0)) (c, 0) fun x => (x.1.take (k : Int).toNat, min x.2 (k : Int).toNat)
    rw [List.length_map] at this
    rw [show List.map (fun b : List UInt8 => (b, 0)) [c] = [(c, 0)] from rfl, this]
    simp
  rw [this]
  unfold fsS
  simp only [List.length_append, List.length_singleton]
theorem fs_rd (R a : Nat) (L : List (List UInt8)) {i : Nat} (h : a + L.length ≤ 10000000000) (hi : i < L.length) : rdE (fsS R a L) (segN (a + i)) = 0 ∧ rdB (fsS R a L) (segN (a + i)) = L[i] := by
  have hl := fs_look R a L h hi
  constructor
  · unfold rdE
    rw [hl]
    rfl
  · unfold rdB
    rw [hl]
    show (((L.map fun b => (b, 0)).getD i ([], 0))).1 = _
    rw [List.getD_eq_getElem?_getD, List.getElem?_map, List.getElem?_eq_getElem hi]
    rfl
/-- What the log knows of it. -/
structure GF (g : LG) (a : Nat) (most : Int) (D : List (List UInt8)) (c : List UInt8) : Prop where
  sg : g.seg.toNat = a + D.length
  at' : g.at'.toNat = c.length
  mo : g.most = most
/-- A record more: the segments, the last one, the place. -/
def putF (most : Int) (D : List (List UInt8)) (c b : List UInt8) : List (List UInt8) × List UInt8 := if c ≠ [] ∧ most < (c.length + b.length : Nat) then (D ++ [c], b) else (D, c ++ b)
def putA (most : Int) (c b : List UInt8) : Nat := if c ≠ [] ∧ most < (c.length + b.length : Nat) then 0 else c.length
theorem u64_small {n : Nat} (h : n < 18446744073709551616) : (UInt64.ofNat n).toNat = n := by
  rw [UInt64.toNat_ofNat']
  omega
theorem fs_put {R a : Nat} {most : Int} {D : List (List UInt8)} {c : List UInt8} {g : LG} {r : Rc} (hg : GF g a most D c) (hr : rightB r = true) (ha : a ≤ 100000) (hD : D.length ≤ 51) (hs : ((D ++ [c]).map List.length).sum + (recB r).length ≤ R) (hR : R ≤ 1048576) :
    ∃ g', appG (fsS R a (D ++ [c])) g r = ⟨0, g'.seg, UInt64.ofNat (putA most c (recB r)), fsS R a ((putF most D c (recB r)).1 ++ [(putF most D c (recB r)).2]), g'⟩ ∧ GF g' a most (putF most D c (recB r)).1 (putF most D c (recB r)).2 ∧
      (g.uns.toNat ≤ a → g'.uns = g.uns) ∧ (g.beg = true → g'.beg = true) := by
  have hl := recB_len hr
  obtain ⟨b, hb⟩ : ∃ b, recB r = b := ⟨_, rfl⟩
  have hcl : c.length ≤ R := by
    rw [List.map_append, List.sum_append] at hs
    simp at hs; omega
  have hat : g.at' ≠ 0 ↔ c ≠ [] := by
    constructor
    · intro h e
      refine h (UInt64.toNat_inj.1 ?_)
      rw [hg.at', e]
      rfl
    · intro h e
      have := hg.at'
      rw [e] at this
      exact h (List.length_eq_zero_iff.1 this.symm)
  have hfull : ∀ (D' : List (List UInt8)) (c' : List UInt8) (g1 : LG), GF g1 a most D' c' → D'.length ≤ 52 → ((D' ++ [c']).map List.length).sum + b.length ≤ R → c'.length ≤ R →
      putG (fsS R a (D' ++ [c'])) g1 b = ⟨0, g1.seg, g1.at', fsS R a (D' ++ [c' ++ b]), { g1 with at' := g1.at' + UInt64.ofNat b.length, uns := if g1.seg < g1.uns then g1.seg else g1.uns }⟩ := fun D' c' g1 h1 h2 h3 h4 => by
    unfold putG
    rw [h1.sg, fs_app R a D' c' b (by omega) h3, if_neg (by simp)]
  unfold appG
  rw [hr, if_neg (by decide), hb]
  rw [hb] at hl hs
  unfold putF putA roomG
  by_cases hc : c ≠ [] ∧ most < (c.length + b.length : Nat)
  · have hc' : g.at' ≠ 0 ∧ g.most < (g.at'.toNat : Int) + (b.length : Int) := ⟨hat.2 hc.1, by rw [hg.mo, hg.at']; have := hc.2; omega⟩
    rw [if_pos hc, if_pos hc, if_pos hc']
    have hsg : (g.seg + 1).toNat = a + (D ++ [c]).length := by
      rw [UInt64.toNat_add, hg.sg, show (1 : UInt64).toNat = 1 from rfl, List.length_append, List.length_singleton]
      omega
    have hn : nextG (fsS R a (D ++ [c])) g = (0, fsS R a ((D ++ [c]) ++ [[]]), { g with seg := g.seg + 1, at' := 0, beg := true }) := by
      unfold nextG
      rw [hsg, if_neg (by simp only [List.length_append, List.length_singleton]; omega), fs_cre R a (D ++ [c]) (by simp only [List.length_append, List.length_singleton]; omega) (by simp only [List.length_append, List.length_singleton]; omega), if_neg (by simp)]
    rw [hn, if_neg (by simp)]
    have hG : GF { g with seg := g.seg + 1, at' := 0, beg := true } a most (D ++ [c]) [] := ⟨hsg, rfl, hg.mo⟩
    dsimp only
    rw [hfull (D ++ [c]) [] _ hG (by simp only [List.length_append, List.length_singleton]; omega) (by rw [List.map_append, List.sum_append]; simp only [List.map_cons, List.map_nil, List.sum_cons, List.sum_nil, List.length_nil]; omega) (by simp)]
    refine ⟨{ seg := g.seg + 1, at' := (0 : UInt64) + UInt64.ofNat b.length, most := g.most, uns := if g.seg + 1 < g.uns then g.seg + 1 else g.uns, beg := true }, rfl, ⟨hsg, ?_, hg.mo⟩, fun hu => ?_, fun _ => rfl⟩
    · show ((0 : UInt64) + UInt64.ofNat b.length).toNat = b.length
      rw [UInt64.toNat_add, u64_small (by omega), show (0 : UInt64).toNat = 0 from rfl]
      omega
    · show (if g.seg + 1 < g.uns then g.seg + 1 else g.uns) = g.uns
      rw [if_neg]
      intro h
      rw [UInt64.lt_iff_toNat_lt, hsg] at h
      omega
  · have hc' : ¬ (g.at' ≠ 0 ∧ g.most < (g.at'.toNat : Int) + (b.length : Int)) := fun q => hc ⟨hat.1 q.1, by have := q.2; rw [hg.mo, hg.at'] at this; omega⟩
    rw [if_neg hc, if_neg hc, if_neg hc', if_neg (by simp)]
    dsimp only
    rw [hfull D c g hg (by omega) (by omega) hcl]
    have hga : g.at' = UInt64.ofNat c.length := by
      refine UInt64.toNat_inj.1 ?_
      rw [hg.at', u64_small (by omega)]
    refine ⟨{ g with at' := g.at' + UInt64.ofNat b.length, uns := if g.seg < g.uns then g.seg else g.uns }, by rw [← hga], ⟨hg.sg, ?_, hg.mo⟩, fun hu => ?_, fun h => h⟩
    · show (g.at' + UInt64.ofNat b.length).toNat = (c ++ b).length
      rw [UInt64.toNat_add, hg.at', u64_small (by omega), List.length_append]
      omega
    · show (if g.seg < g.uns then g.seg else g.uns) = g.uns
      rw [if_neg]
      intro h
      rw [UInt64.lt_iff_toNat_lt, hg.sg] at h
      omega
/-- A place: its record, segment, place. -/
structure Plc where
  r : Rc
  seg : UInt64
  at' : UInt64
/-- .. in segments a, a + 1, ..: what stands there. -/
def PlIn (a : Nat) (L : List (List UInt8)) (p : Plc) : Prop := rightB p.r = true ∧ ∃ i, ∃ h : i < L.length, p.seg.toNat = a + i ∧ ∃ x y, L[i] = x ++ (recB p.r ++ y) ∧ x.length = p.at'.toNat
theorem PlIn.grow {a : Nat} {L M : List (List UInt8)} {p : Plc} (h : PlIn a L p) (hl : L.length ≤ M.length) (hm : ∀ i (h1 : i < L.length) (h2 : i < M.length), L[i] <+: M[i]) : PlIn a M p := by
  obtain ⟨hr, i, hi, h1, x, y, h2, h3⟩ := h
  obtain ⟨z, hz⟩ := hm i hi (by omega)
  exact ⟨hr, i, by omega, h1, x, y ++ z, by rw [← hz, h2]; simp, h3⟩
theorem putF_sum (most : Int) (D : List (List UInt8)) (c b : List UInt8) : (((putF most D c b).1 ++ [(putF most D c b).2]).map List.length).sum = ((D ++ [c]).map List.length).sum + b.length := by
  unfold putF
  split <;> simp <;> omega
theorem putF_len (most : Int) (D : List (List UInt8)) (c b : List UInt8) : D.length ≤ (putF most D c b).1.length ∧ (putF most D c b).1.length ≤ D.length + 1 := by
  unfold putF
  split <;> simp
theorem putF_grow (most : Int) (D : List (List UInt8)) (c b : List UInt8) : (D ++ [c]).length ≤ ((putF most D c b).1 ++ [(putF most D c b).2]).length ∧ ∀ i (h1 : i < (D ++ [c]).length) (h2 : i < ((putF most D c b).1 ++ [(putF most D c b).2]).length), (D ++ [c])[i] <+: ((putF most D c b).1 ++ [(putF most D c b).2])[i] := by
  unfold putF
  split
  · refine ⟨by simp, fun i h1 h2 => ?_⟩
    rw [List.getElem_append_left h1]
    exact List.prefix_refl _
  · refine ⟨by simp, fun i h1 h2 => ?_⟩
    by_cases e : i < D.length
    · rw [List.getElem_append_left e, List.getElem_append_left e]
      exact List.prefix_refl _
    · have : i = D.length := by simp at h1; omega
      subst this
      simp
theorem putF_new {a : Nat} {most : Int} {D : List (List UInt8)} {c : List UInt8} {g' : LG} {r : Rc} (hr : rightB r = true) (hG : GF g' a most (putF most D c (recB r)).1 (putF most D c (recB r)).2) (hc : c.length ≤ 1048576) :
    PlIn a ((putF most D c (recB r)).1 ++ [(putF most D c (recB r)).2]) ⟨r, g'.seg, UInt64.ofNat (putA most c (recB r))⟩ := by
  refine ⟨hr, (putF most D c (recB r)).1.length, by simp, hG.sg, if c ≠ [] ∧ most < (c.length + (recB r).length : Nat) then [] else c, [], ?_, ?_⟩
  · rw [List.getElem_append_right (Nat.le_refl _)]
    simp only [Nat.sub_self, List.getElem_cons_zero, List.append_nil]
    unfold putF
    split <;> simp
  · dsimp only
    unfold putA
    rw [u64_small (by split <;> omega)]
    split <;> rfl
/-- What is read of a place. -/
theorem PlIn.rd {a : Nat} {L : List (List UInt8)} {p : Plc} (h : PlIn a L p) (hL : a + L.length ≤ 10000000000) {s : PS} (hs : ∀ i (hi : i < L.length), rdE s (segN (a + i)) = 0 ∧ L[i] <+: rdB s (segN (a + i))) : readG s p.seg p.at' = (p.r, (recB p.r).length, 0) := by
  obtain ⟨hr, i, hi, h1, x, y, h2, h3⟩ := h
  obtain ⟨k1, z, k2⟩ := hs i hi
  have hl := recB_len hr
  unfold readG
  rw [h1, if_neg (by omega), k1, if_neg (by simp), ← k2, h2, if_neg (by simp only [List.length_append]; omega)]
  have : ((x ++ (recB p.r ++ y)) ++ z).drop p.at'.toNat = recB p.r ++ (y ++ z) := by
    rw [List.append_assoc, ← h3, List.drop_left, List.append_assoc]
  rw [this, first_rec hr]
theorem fs_rds (R a : Nat) (L : List (List UInt8)) (h : a + L.length ≤ 10000000000) : ∀ i (hi : i < L.length), rdE (fsS R a L) (segN (a + i)) = 0 ∧ L[i] <+: rdB (fsS R a L) (segN (a + i)) := fun i hi => by
  obtain ⟨h1, h2⟩ := fs_rd R a L h hi
  exact ⟨h1, by rw [h2]; exact List.prefix_refl _⟩
end Go.Proofs.YtmbigiihcplcjaaGreatDoor

set_option linter.unusedSimpArgs false
set_option linter.unusedVariables false
namespace Go.Proofs.YtmbigiihcplcjaaGreatDoor
open Go Go.RowKit Go.Tum Go.ChangeMaps Go.Tum.Crc Go.Nam

/-- .. of whose files the first m were synced. -/
def fsT (R a : Nat) (L : List (List UInt8)) (m : Nat) : PS := ⟨R, L.mapIdx fun i b => (b, if i < m then b.length else 0), [], fsOpn a L.length, -1, false⟩
theorem fsT_zero (R a : Nat) (L : List (List UInt8)) : fsT R a L 0 = fsS R a L := by
  unfold fsT fsS
  congr 1
  refine List.ext_getElem (by simp) fun i h1 h2 => ?_
  simp
theorem fsT_syn (R a : Nat) (L : List (List UInt8)) {m : Nat} (h : a + L.length ≤ 10000000000) (hm : m < L.length) : synP (fsT R a L m) (segN (a + m)) = (0, fsT R a L (m + 1)) := by
  have hk : look (fsT R a L m).dir (segN (a + m)) = some m := (fs_dir a L.length h).lk m hm
  have he : missP (fsT R a L m) (segN (a + m)) = 0 := by unfold missP; rw [hk]; rfl
  unfold synP
  rw [doP_go rfl he rfl]
  refine Prod.ext rfl ?_
  show ({ fsT R a L m with fuse := -1, files := setF (fsT R a L m).files (look (fsT R a L m).dir (segN (a + m))) fun x => (x.1, x.1.length) } : PS) = _
  rw [hk]
  show ({ fsT R a L m with fuse := -1, files := (L.mapIdx fun i b => (b, if i < m then b.length else 0)).modify m fun x => (x.1, x.1.length) } : PS) = _
  have : (L.mapIdx fun i b => (b, if i < m then b.length else 0)).modify m (fun x => (x.1, x.1.length)) = L.mapIdx fun i b => (b, if i < m + 1 then b.length else 0) := by
    refine List.ext_getElem (by simp) fun i h1 h2 => ?_
    rw [List.getElem_modify, List.getElem_mapIdx, List.getElem_mapIdx]
    by_cases e : m = i
    · subst e
      rw [if_pos rfl]
      show (L[m], L[m].length) = (L[m], if m < m + 1 then L[m].length else 0)
      rw [if_pos (by omega)]
    · rw [if_neg e]
      by_cases e2 : i < m
      · rw [if_pos e2, if_pos (by omega)]
      · rw [if_neg e2, if_neg (by omega)]
  rw [this]
  rfl
theorem fsT_synN (R a : Nat) (L : List (List UInt8)) (h : a + L.length ≤ 10000000000) : ∀ (k m : Nat), m + k ≤ L.length → synN k (a + m) (fsT R a L m) = (0, fsT R a L (m + k))
  | 0, m, _ => rfl
  | k + 1, m, hk => by
    unfold synN
    rw [fsT_syn R a L h (by omega), if_neg (by simp)]
    have := fsT_synN R a L h k (m + 1) (by omega)
    rw [show a + m + 1 = a + (m + 1) from rfl, this, show m + 1 + k = m + (k + 1) by omega]
/-- .. all of it is sure. -/
def fsD (R a : Nat) (L : List (List UInt8)) : PS := ⟨R, L.map fun b => (b, b.length), dirAt [] (fsOpn a L.length), [], -1, false⟩
theorem fsT_dsy (R a : Nat) (L : List (List UInt8)) : dsyP (fsT R a L L.length) = (0, fsD R a L) := by
  unfold dsyP
  rw [doP_go rfl rfl rfl]
  refine Prod.ext rfl ?_
  show (⟨R, L.mapIdx fun i b => (b, if i < L.length then b.length else 0), dirAt [] (fsOpn a L.length), [], -1, false⟩ : PS) = fsD R a L
  unfold fsD
  congr 1
  refine List.ext_getElem (by simp) fun i h1 h2 => ?_
  have : i < L.length := by simpa using h1
  rw [List.getElem_mapIdx, List.getElem_map, if_pos this]
theorem fs_sync {R a : Nat} {most : Int} {D : List (List UInt8)} {c : List UInt8} {g : LG} (hg : GF g a most D c) (hu : g.uns.toNat = a) (hb : g.beg = true) (h : a + (D ++ [c]).length ≤ 10000000000) :
    synG (fsS R a (D ++ [c])) g = (0, fsD R a (D ++ [c]), { g with uns := g.seg + 1, beg := false }) := by
  unfold synG
  have e : g.seg.toNat + 1 - g.uns.toNat = (D ++ [c]).length := by rw [hg.sg, hu, List.length_append, List.length_singleton]; omega
  have h1 := fsT_synN R a (D ++ [c]) h (D ++ [c]).length 0 (by omega)
  rw [Nat.add_zero, Nat.zero_add, fsT_zero] at h1
  rw [e, hu, h1]
  dsimp only
  rw [if_neg (by simp), if_pos hb, fsT_dsy, if_neg (by simp)]
/-- The name is file f's, whatever crashes, and begins with b. -/
structure SK (s : PS) (nm : Nm) (f : Nat) (b : List UInt8) : Prop where
  lk : ∀ k, look (dirAt s.sure (s.opn.take k)) nm = some f
  fi : ∃ all L, s.files[f]? = some (all, L) ∧ b <+: all ∧ b.length ≤ L ∧ L ≤ all.length
  nn : nm ≠ []
theorem SK.dir {s : PS} {nm : Nm} {f : Nat} {b : List UInt8} (h : SK s nm f b) : look s.dir nm = some f := by
  have := h.lk s.opn.length
  rwa [List.take_length] at this
theorem fsD_sk (R a : Nat) (L : List (List UInt8)) (h : a + L.length ≤ 10000000000) {i : Nat} (hi : i < L.length) : SK (fsD R a L) (segN (a + i)) i L[i] := by
  refine ⟨fun k => ?_, ⟨L[i], L[i].length, ?_, List.prefix_refl _, Nat.le_refl _, Nat.le_refl _⟩, segN_ne _⟩
  · show look (dirAt (dirAt [] (fsOpn a L.length)) (List.take k [])) _ = _
    rw [List.take_nil]
    exact (fs_dir a L.length h).lk i hi
  · show (L.map fun b => (b, b.length))[i]? = _
    rw [List.getElem?_map, List.getElem?_eq_getElem hi]
    rfl
theorem SK.doP {s : PS} {nm : Nm} {f : Nat} {b : List UInt8} (h : SK s nm f b) (e : Nat) (act : PS → PS) (ha : e = 0 → ∀ s', s'.dir = s.dir → SK s' nm f b → SK (act s') nm f b) : SK (doP s e act).2 nm f b := by
  unfold Go.Proofs.YtmbigiihcplcjaaGreatDoor.doP
  split
  · exact h
  · split
    · exact h
    · rename_i he
      split
      · exact ⟨h.lk, h.fi, h.nn⟩
      · exact ha (by simpa using he) { s with fuse := if 0 < s.fuse then s.fuse - 1 else s.fuse } rfl (SK.mk h.lk h.fi h.nn)
theorem SK.cre {s : PS} {nm : Nm} {f : Nat} {b : List UInt8} (h : SK s nm f b) (n : Nm) : SK (creP s n).2 nm f b := by
  refine h.doP _ _ fun he s' hd' h' => ?_
  have hl : look s'.dir n = none := by
    rw [hd']
    unfold creE at he
    split at he
    · cases he
    split at he
    · cases he
    rename_i hlk
    cases hq : look s.dir n with
    | none => rfl
    | some f => rw [hq] at hlk; simp at hlk
  have hne : nm ≠ n := fun e => by
    have := h'.dir
    rw [e, hl] at this
    cases this
  refine ⟨fun k => ?_, ?_, h.nn⟩
  · show look (dirAt s'.sure ((s'.opn ++ [(⟨[], n, some s'.files.length⟩ : Chg)]).take k)) nm = some f
    by_cases hk : k ≤ s'.opn.length
    · rw [List.take_append_of_le_length hk]
      exact h'.lk k
    · rw [List.take_of_length_le (by simp; omega)]
      have e1 : dirAt s'.sure (s'.opn ++ [(⟨[], n, some s'.files.length⟩ : Chg)]) = appC s'.dir ⟨[], n, some s'.files.length⟩ := by unfold PS.dir dirAt; simp only [List.foldl_append, List.foldl_cons, List.foldl_nil]
      rw [e1]
      show look (inN (noN (noN s'.dir []) n) n _) nm = _
      rw [look_inN (by rw [look_noN, if_pos rfl]), if_neg hne, look_noN, if_neg hne, look_noN, if_neg h.nn]
      exact h'.dir
  · obtain ⟨all, L, h1, h2⟩ := h'.fi
    have hlt : f < s'.files.length := (List.getElem?_eq_some_iff.1 h1).1
    exact ⟨all, L, by show (s'.files ++ [([], 0)])[f]? = _; rw [List.getElem?_append_left hlt]; exact h1, h2⟩
theorem SK.app {s : PS} {nm : Nm} {f : Nat} {b : List UInt8} (h : SK s nm f b) (n : Nm) (u : List UInt8) : SK (appP s n u).2 nm f b := by
  refine h.doP _ _ fun he s' hd' h' => ⟨h'.lk, ?_, h.nn⟩
  obtain ⟨all, L, h1, h2, h3, h4⟩ := h'.fi
  show ∃ all L, (setF s'.files (look s'.dir n) fun x => (x.1 ++ u, x.2))[f]? = some (all, L) ∧ _
  cases hf : look s'.dir n with
  | none => exact ⟨all, L, h1, h2, h3, h4⟩
  | some i =>
    show ∃ all L, (s'.files.modify i fun x => (x.1 ++ u, x.2))[f]? = some (all, L) ∧ _
    rw [List.getElem?_modify, h1]
    by_cases e : i = f
    · refine ⟨all ++ u, L, by simp [e], h2.trans (List.prefix_append _ _), h3, by rw [List.length_append]; omega⟩
    · exact ⟨all, L, by simp [e], h2, h3, h4⟩
theorem SK.appG {s : PS} {nm : Nm} {f : Nat} {b : List UInt8} (h : SK s nm f b) (g : LG) (r : Rc) : SK (appG s g r).s nm f b := by
  have hroom : SK (roomG s g (recB r).length).2.1 nm f b := by
    unfold roomG nextG
    split
    · split
      · exact h
      · split <;> exact h.cre _
    · exact h
  unfold Go.Proofs.YtmbigiihcplcjaaGreatDoor.appG
  split
  · exact h
  · split
    · exact hroom
    · unfold putG
      split <;> exact hroom.app _ _
/-- .. and behind a crash. -/
structure RK (s : PS) (nm : Nm) (f : Nat) (b : List UInt8) : Prop where
  lk : look s.dir nm = some f
  fi : ∃ all L, s.files[f]? = some (all, L) ∧ b <+: all
theorem crA_at : ∀ (d : Dir) (ts : List Int) (fs : List (List UInt8 × Nat)) (f : Nat) (b all : List UInt8) (L : Nat), fs[f]? = some (all, L) → b <+: all → b.length ≤ L → L ≤ all.length → ∃ all' L', (crA d ts fs)[f]? = some (all', L') ∧ b <+: all' ∧ b.length ≤ L' ∧ L' ≤ all'.length
  | [], _, _, _, _, all, L, h, k, m, n => ⟨all, L, h, k, m, n⟩
  | z :: r, ts, fs, f, b, all, L, h, k, m, n => by
    show ∃ all' L', (crA r ts.tail (fs.modify z.2 (crF (ts.headD 0))))[f]? = some (all', L') ∧ _
    by_cases e : z.2 = f
    · have h1 : (fs.modify z.2 (crF (ts.headD 0)))[f]? = some (crF (ts.headD 0) (all, L)) := by
        rw [List.getElem?_modify, h]
        simp [e]
      unfold crF at h1
      dsimp only at h1
      obtain ⟨q, hq⟩ : ∃ q, L + (min (max (ts.headD 0) 0) ((all.length : Int) - L)).toNat = q := ⟨_, rfl⟩
      have hq1 : L ≤ q := by omega
      have hq2 : q ≤ all.length := by omega
      rw [hq] at h1
      refine crA_at r ts.tail _ f b _ q h1 ?_ (by omega) (by rw [List.length_take]; omega)
      obtain ⟨t, rfl⟩ := k
      rw [List.take_append, List.take_of_length_le (by omega)]
      exact List.prefix_append _ _
    · refine crA_at r ts.tail _ f b all L ?_ k m n
      rw [List.getElem?_modify, h]
      simp [e]
theorem SK.crash {s : PS} {nm : Nm} {f : Nat} {b : List UInt8} (h : SK s nm f b) (k : Int) (ts : List Int) : RK (crP s k ts) nm f b := by
  obtain ⟨all, L, h1, h2, h3, h4⟩ := h.fi
  obtain ⟨all', L', k1, k2, -, -⟩ := crA_at (dirAt s.sure (s.opn.take k.toNat)) ts s.files f b all L h1 h2 h3 h4
  exact ⟨h.lk k.toNat, all', L', k1, k2⟩
theorem RK.rd {s : PS} {nm : Nm} {f : Nat} {b : List UInt8} (h : RK s nm f b) (hd : s.down = false) : rdE s nm = 0 ∧ b <+: rdB s nm := by
  obtain ⟨all, L, k1, k2⟩ := h.fi
  constructor
  · unfold rdE
    rw [hd, h.lk]
    rfl
  · unfold rdB
    rw [hd, h.lk]
    show b <+: (s.files.getD f ([], 0)).1
    rw [List.getD_eq_getElem?_getD, k1]
    exact k2
theorem RK.cut {s : PS} {nm n : Nm} {f i : Nat} {b : List UInt8} (h : RK s nm f b) (hn : look s.dir n = some i) (k : Nat) (hk : i = f → b.length ≤ k) : RK (cutP s n (k : Int)).2 nm f b := by
  unfold cutP Go.Proofs.YtmbigiihcplcjaaGreatDoor.doP
  split
  · exact h
  · split
    · exact h
    · split
      · exact ⟨h.lk, h.fi⟩
      · refine ⟨h.lk, ?_⟩
        obtain ⟨all, L, k1, k2⟩ := h.fi
        show ∃ all L, (setF s.files (look s.dir n) fun x => (x.1.take (k : Int).toNat, min x.2 (k : Int).toNat))[f]? = some (all, L) ∧ _
        rw [hn]
        show ∃ all L, (s.files.modify i fun x => (x.1.take (k : Int).toNat, min x.2 (k : Int).toNat))[f]? = some (all, L) ∧ _
        rw [List.getElem?_modify, k1]
        by_cases e : i = f
        · refine ⟨all.take k, min L k, by simp [e], ?_⟩
          have := hk e
          obtain ⟨t, rfl⟩ := k2
          rw [List.take_append, List.take_of_length_le (by omega)]
          exact List.prefix_append _ _
        · exact ⟨all, L, by simp [e], k2⟩
/-- Opened where it was sure: all of it is there. -/
theorem open_sure {a : Nat} {L : List (List UInt8)} {D : List (List UInt8)} {c : List UInt8} {s : PS} (hL : L = D ++ [c]) (h : ∀ i (hi : i < L.length), RK s (segN (a + i)) i L[i]) (hd : s.down = false) (hf : s.fuse = -1) {seg at' : UInt64} {most : Int} (hm : mayB seg most = true)
    (hs : seg.toNat = a + D.length) (ha : at'.toNat = c.length) : ∃ s', openG s seg at' most = (some ⟨seg, at', most, seg + 1, false⟩, 0, s') ∧ s'.down = false ∧ ∀ i (hi : i < L.length), RK s' (segN (a + i)) i L[i] := by
  subst hL
  have hk := h D.length (by simp)
  have hk1 := hk.rd hd
  have e : (D ++ [c])[D.length]'(by simp) = c := by simp
  rw [e] at hk1 hk
  obtain ⟨hk2, t, ht⟩ := hk1
  unfold openG
  rw [hm, if_neg (by decide), hs, hk2, if_neg (by simp), ← ht, ha, if_neg (by rw [List.length_append]; omega)]
  by_cases hl : c.length < (c ++ t).length
  · rw [if_pos hl]
    have hfl : flen s.files D.length = (c ++ t).length := by
      rw [ht]
      unfold rdB
      rw [hd, hk.lk]
      rfl
    have he : cutE s (segN (a + D.length)) (c.length : Int) = 0 := by
      unfold cutE
      rw [hk.lk]
      dsimp only
      rw [hfl, if_neg (by omega)]
    have h0 : (cutP s (segN (a + D.length)) (c.length : Int)).1 = 0 := by
      unfold cutP
      rw [doP_go hd he hf]
    have h1 : (cutP s (segN (a + D.length)) (c.length : Int)).2.down = false := by
      unfold cutP
      rw [doP_go hd he hf]
      exact hd
    rw [h0, if_neg (by simp)]
    refine ⟨_, rfl, h1, fun i hi => (h i hi).cut hk.lk c.length fun q => ?_⟩
    subst q
    rw [e]
    exact Nat.le_refl _
  · rw [if_neg hl]
    exact ⟨s, rfl, hd, h⟩
theorem rk_rds {a : Nat} {L : List (List UInt8)} {s : PS} (h : ∀ i (hi : i < L.length), RK s (segN (a + i)) i L[i]) (hd : s.down = false) : ∀ i (hi : i < L.length), rdE s (segN (a + i)) = 0 ∧ L[i] <+: rdB s (segN (a + i)) := fun i hi => (h i hi).rd hd
end Go.Proofs.YtmbigiihcplcjaaGreatDoor

set_option linter.unusedSimpArgs false
set_option linter.unusedVariables false
namespace Go.Proofs.YtmbigiihcplcjaaGreatDoor
open Go Go.RowKit Go.Tum Go.ChangeMaps Go.Tum.Crc Go.Nam

/-- The law's own count: the last segment, how many records stand in it. -/
def stepP (most : Int) (st : Nat × Nat) (p : Plc) : Option (Nat × Nat) :=
  let t := if p.seg.toNat = st.1 + 1 ∧ p.at'.toNat = 0 then (p.seg.toNat, 0) else st
  if p.seg.toNat = t.1 ∧ (t.2 = 0 ↔ p.at'.toNat = 0) ∧ ¬ (0 < t.2 ∧ most < (p.at'.toNat + (recB p.r).length : Nat)) then some (t.1, t.2 + 1) else none
def chkP (most : Int) : List Plc → Nat × Nat → Option (Nat × Nat)
  | [], st => some st
  | p :: r, st => (stepP most st p).bind (chkP most r)
theorem chk_app (most : Int) : ∀ (l m : List Plc) (st : Nat × Nat), chkP most (l ++ m) st = (chkP most l st).bind (chkP most m)
  | [], m, st => rfl
  | p :: r, m, st => by
    show (stepP most st p).bind (chkP most (r ++ m)) = ((stepP most st p).bind (chkP most r)).bind (chkP most m)
    cases stepP most st p with
    | none => rfl
    | some s => exact chk_app most r m s
theorem stepP_new {most : Int} {l n : Nat} {p : Plc} (h1 : p.seg.toNat = l + 1) (h2 : p.at'.toNat = 0) : stepP most (l, n) p = some (l + 1, 1) := by
  unfold stepP
  dsimp only
  have ht : (if p.seg.toNat = l + 1 ∧ p.at'.toNat = 0 then (p.seg.toNat, 0) else (l, n)) = (p.seg.toNat, 0) := if_pos ⟨h1, h2⟩
  rw [ht]
  dsimp only
  rw [if_pos ⟨rfl, by simp [h2], by omega⟩, h1]
theorem stepP_old {most : Int} {l n : Nat} {p : Plc} (h1 : p.seg.toNat = l) (h2 : n = 0 ↔ p.at'.toNat = 0) (h3 : ¬ (0 < n ∧ most < (p.at'.toNat + (recB p.r).length : Nat))) : stepP most (l, n) p = some (l, n + 1) := by
  unfold stepP
  dsimp only
  have ht : (if p.seg.toNat = l + 1 ∧ p.at'.toNat = 0 then (p.seg.toNat, 0) else (l, n)) = (l, n) := if_neg (fun k => by have := k.1; omega)
  rw [ht]
  dsimp only
  rw [if_pos ⟨h1, h2, h3⟩]
structure PsOk (a : Nat) (most : Int) (ps : List Plc) (D : List (List UInt8)) (c : List UInt8) : Prop where
  pl : ∀ p ∈ ps, PlIn a (D ++ [c]) p
  ck : ∃ n, chkP most ps (a, 0) = some (a + D.length, n) ∧ (n = 0 ↔ c = [])
  od : ps.Pairwise fun p q => p.seg.toNat = q.seg.toNat → p.at'.toNat + (recB p.r).length ≤ q.at'.toNat
  ls : ∀ q, ps.getLast? = some q → q.seg.toNat = a + D.length
theorem PsOk.nil (a : Nat) (most : Int) : PsOk a most [] [] [] := ⟨fun p h => by simp at h, ⟨0, rfl, by simp⟩, List.Pairwise.nil, fun q h => by simp at h⟩
theorem PlIn.end {a : Nat} {D : List (List UInt8)} {c : List UInt8} {p : Plc} (h : PlIn a (D ++ [c]) p) : p.seg.toNat ≤ a + D.length ∧ (p.seg.toNat = a + D.length → p.at'.toNat + (recB p.r).length ≤ c.length) := by
  obtain ⟨-, i, hi, h1, x, y, h2, h3⟩ := h
  rw [List.length_append, List.length_singleton] at hi
  refine ⟨by omega, fun e => ?_⟩
  have : i = D.length := by omega
  subst this
  rw [List.getElem_append_right (Nat.le_refl _)] at h2
  simp only [Nat.sub_self, List.getElem_cons_zero] at h2
  rw [h2, List.length_append, List.length_append]
  omega
theorem PsOk.put {a : Nat} {most : Int} {ps : List Plc} {D : List (List UInt8)} {c : List UInt8} {g' : LG} {r : Rc} (h : PsOk a most ps D c) (hr : rightB r = true) (hG : GF g' a most (putF most D c (recB r)).1 (putF most D c (recB r)).2) (hc : c.length ≤ 1048576) :
    PsOk a most (ps ++ [⟨r, g'.seg, UInt64.ofNat (putA most c (recB r))⟩]) (putF most D c (recB r)).1 (putF most D c (recB r)).2 := by
  have hl := recB_len hr
  have hga : (UInt64.ofNat (putA most c (recB r))).toNat = putA most c (recB r) := by
    unfold putA
    rw [u64_small (by split <;> omega)]
  have hgs := hG.sg
  obtain ⟨n, hn, hn0⟩ := h.ck
  refine ⟨fun p hp => ?_, ?_, ?_, fun q hq => ?_⟩
  · rcases List.mem_append.1 hp with hp | hp
    · obtain ⟨g1, g2⟩ := putF_grow most D c (recB r)
      exact (h.pl p hp).grow g1 g2
    · rw [List.mem_singleton] at hp
      subst hp
      exact putF_new hr hG hc
  · rw [chk_app, hn]
    rw [Option.bind_some]
    have e1 : ∀ st p, chkP most [p] st = stepP most st p := fun st p => by
      show (stepP most st p).bind (fun s => some s) = _
      cases stepP most st p <;> rfl
    rw [e1]
    by_cases q : c ≠ [] ∧ most < (c.length + (recB r).length : Nat)
    · have e2 : putF most D c (recB r) = (D ++ [c], recB r) := by unfold putF; rw [if_pos q]
      have e3 : putA most c (recB r) = 0 := by unfold putA; rw [if_pos q]
      rw [e2] at hgs ⊢
      rw [e3] at hga ⊢
      rw [stepP_new (by rw [hgs]; simp; omega) hga]
      refine ⟨1, by simp; omega, ?_⟩
      constructor
      · intro e; omega
      · intro e
        have e : recB r = [] := e
        rw [e] at hl; simp at hl
    · have e2 : putF most D c (recB r) = (D, c ++ recB r) := by unfold putF; rw [if_neg q]
      have e3 : putA most c (recB r) = c.length := by unfold putA; rw [if_neg q]
      rw [e2] at hgs ⊢
      rw [e3] at hga ⊢
      rw [stepP_old (by exact hgs) (by rw [hga, hn0]; exact List.length_eq_zero_iff.symm) (fun k => q ⟨fun e => by have := hn0.2 e; omega, by have := k.2; rw [hga] at this; exact this⟩)]
      refine ⟨n + 1, rfl, ?_⟩
      constructor
      · intro e; omega
      · intro e
        have := congrArg List.length e
        simp only [List.length_append, List.length_nil] at this
        omega
  · rw [List.pairwise_append]
    refine ⟨h.od, List.pairwise_singleton _ _, fun p hp q hq e => ?_⟩
    rw [List.mem_singleton] at hq
    subst hq
    dsimp only at e ⊢
    rw [hga]
    rw [hgs] at e
    obtain ⟨k1, k2⟩ := (h.pl p hp).end
    unfold putF at e
    unfold putA
    by_cases q : c ≠ [] ∧ most < (c.length + (recB r).length : Nat)
    · rw [if_pos q] at e
      simp only [List.length_append, List.length_singleton] at e
      omega
    · rw [if_neg q] at e ⊢
      exact k2 e
  · rw [List.getLast?_append] at hq
    simp only [List.getLast?_singleton, Option.some_or, Option.some.injEq] at hq
    subst hq
    exact hgs
/-- Places ahead of one in the last segment, all behind it being there, stand ahead of it. -/
theorem PsOk.cut {a : Nat} {most : Int} {ps : List Plc} {D : List (List UInt8)} {c : List UInt8} (h : PsOk a most ps D c) {k : Nat} (hk : k < ps.length) (hs : ∀ q ∈ ps.drop k, q.seg = ps[k].seg) :
    ps[k].seg.toNat = a + D.length ∧ ps[k].at'.toNat ≤ c.length ∧ ∀ p ∈ ps.take k, PlIn a (D ++ [c.take ps[k].at'.toNat]) p := by
  have hlast : ps[k].seg.toNat = a + D.length := by
    cases hg : ps.getLast? with
    | none => rw [List.getLast?_eq_none_iff] at hg; rw [hg] at hk; simp at hk
    | some q =>
      have hm : q ∈ ps.drop k := by
        have h1 : (ps.drop k).getLast? = some q := by rw [List.getLast?_drop, if_neg (by omega), hg]
        exact List.mem_of_getLast? h1
      rw [← hs q hm]
      exact h.ls q hg
  have hx := (h.pl ps[k] (List.getElem_mem hk)).end
  have hle := hx.2 hlast
  refine ⟨hlast, by omega, fun p hp => ?_⟩
  obtain ⟨hr, i, hi, h1, x, y, h2, h3⟩ := h.pl p (List.mem_of_mem_take hp)
  rw [List.length_append, List.length_singleton] at hi
  by_cases e : i < D.length
  · refine ⟨hr, i, by simp; omega, h1, x, y, ?_, h3⟩
    rw [List.getElem_append_left e]
    rw [List.getElem_append_left e] at h2
    exact h2
  · have hiD : i = D.length := by omega
    subst hiD
    have ho : p.at'.toNat + (recB p.r).length ≤ ps[k].at'.toNat := by
      obtain ⟨j, hj, e2⟩ := List.mem_iff_getElem.1 hp
      rw [List.length_take] at hj
      rw [List.getElem_take] at e2
      have := List.pairwise_iff_getElem.1 h.od j k (by omega) hk (by omega)
      rw [e2] at this
      exact this (by rw [h1, hlast])
    rw [List.getElem_append_right (Nat.le_refl _)] at h2
    simp only [Nat.sub_self, List.getElem_cons_zero] at h2
    refine ⟨hr, D.length, by simp, h1, x, y.take (ps[k].at'.toNat - x.length - (recB p.r).length), ?_, h3⟩
    rw [List.getElem_append_right (Nat.le_refl _)]
    simp only [Nat.sub_self, List.getElem_cons_zero]
    rw [h2, List.take_append, List.take_append, List.take_of_length_le (by omega), List.take_of_length_le (by omega)]
end Go.Proofs.YtmbigiihcplcjaaGreatDoor

