/- Frames that are turned, torn: the plain mathematics.
The log of segments: mathematics.
The log of segments, as the laws fill it: mathematics. -/
import Derived.Test.YtinancnlangkjaaGreatDoorDskMK
import Derived.Test.YtinancnlangkjaaGreatDoorDskMY
import Derived.Test.YtinancnlangkjaaGreatDoorRecM
import Derived.Test.YtinancnlangkjaaGreatDoorNamM
import Derived.Test.YtinancnlangkjaaGreatDoorFrmM
set_option linter.unusedSimpArgs false
set_option linter.unusedVariables false
namespace Go.Proofs.YtinancnlangkjaaGreatDoor
open Go Go.RowKit Go.Tum Go.ChangeMaps Go.Tum.Crc Go.Nam

abbrev segN (n : Nat) : Nm := nameL 109 n
abbrev recB (r : Rc) : List UInt8 := fbytes (recFr r)
theorem digits_ok (n : Nat) : ∀ c ∈ dec n, 48 ≤ c.toNat ∧ c.toNat ≤ 57 := by
  induction n using Nat.strongRecOn with
  | _ n ih =>
    unfold dec
    rw [Lib.decDigits]
    by_cases h : n < 10
    · rw [dif_pos h]
      intro c hc
      rw [List.mem_singleton] at hc
      subst hc
      have := u8_digit h
      omega
    · rw [dif_neg h]
      intro c hc
      rcases List.mem_append.1 hc with hc | hc
      · exact ih (n / 10) (by omega) c hc
      · rw [List.mem_singleton] at hc
        subst hc
        have := u8_digit (Nat.mod_lt n (show 10 > 0 by omega))
        omega
theorem segN_len {n : Nat} (h : n < 10000000000) : (segN n).length ≤ 12 ∧ 3 ≤ (segN n).length := by
  have h1 : (dec n).length ≤ 10 := dec_len (k := 9) h
  have h2 : 1 ≤ (dec n).length := by
    have := dec_ne n
    cases h : dec n with
    | nil => exact absurd h this
    | cons a r => simp
  show (109 :: 46 :: dec n).length ≤ 12 ∧ 3 ≤ (109 :: 46 :: dec n).length
  simp only [List.length_cons]
  omega
theorem segN_ok {n : Nat} (h : n < 10000000000) : nmOk (segN n) = true := by
  have hl := segN_len h
  unfold nmOk
  simp only [Bool.and_eq_true, decide_eq_true_eq, List.all_eq_true]
  refine ⟨⟨by omega, hl.1⟩, fun c hc => ?_⟩
  have hc' : c ∈ (109 : UInt8) :: 46 :: dec n := hc
  rcases List.mem_cons.1 hc' with rfl | hc'
  · decide
  rcases List.mem_cons.1 hc' with rfl | hc'
  · decide
  · have := digits_ok n c hc'
    omega
theorem segN_inj {m n : Nat} (hm : m < 10000000000) (hn : n < 10000000000) (h : segN m = segN n) : m = n := by
  have h1 := read_name (k := 109) (by decide) hm
  have h2 := read_name (k := 109) (by decide) hn
  have h3 : nameL 109 m = nameL 109 n := h
  rw [h3, h2] at h1
  simpa using h1.symm
theorem segN_ne (n : Nat) : segN n ≠ [] := fun h => by
  have : (109 :: 46 :: dec n : List UInt8) = [] := h
  cases this

/-! ### What is read at a place -/
/-- The record that bytes begin with. -/
def firstL (b : List UInt8) : Rc × Nat × Int := match (rall 0 (b.take 411)).1, (rall 0 (b.take 411)).2.1 with
  | x :: _, n :: _ => (x, n, 0)
  | _, _ => (r0, 0, (rall 0 (b.take 411)).2.2)
theorem rall_lens : ∀ (b : List UInt8) (k : Nat), (rall k b).1.length = (rall k b).2.1.length := by
  intro b
  induction b using fall_ind with
  | h b ih =>
    intro k
    by_cases hb : b = []
    · subst hb; rfl
    · by_cases he : (fread b).2.2 = 0
      · by_cases hr : (recRead (fread b).1).2 = 0
        · rw [rall_ok hb he hr]
          have := ih hb he (k + (fread b).2.1)
          simp only [List.length_cons, this]
        · rw [rall_form hb he hr]; rfl
      · rw [rall_bad hb he]; rfl
theorem recB_len {r : Rc} (h : rightB r = true) : 11 ≤ (recB r).length ∧ (recB r).length ≤ 411 := by
  have h1 := body_le h
  have h2 : (recB r).length = (recFr r).body.length + 11 := fbytes_length _
  have h3 : (recFr r).body.length = (recBody r).length := rfl
  omega
theorem rall_rec {r : Rc} (h : rightB r = true) (m : List UInt8) (k : Nat) : rall k (recB r ++ m) = (r :: (rall (k + (recB r).length) m).1, (k + (recB r).length) :: (rall (k + (recB r).length) m).2.1, (rall (k + (recB r).length) m).2.2) := by
  have hb := body_le h
  have hl := recB_len h
  have hl2 : (recB r).length = (recFr r).body.length + 11 := fbytes_length _
  have h1 := fread_fbytes (recFr r) m hb
  have hne : recB r ++ m ≠ [] := fun e => by have := congrArg List.length e; simp only [List.length_append, List.length_nil] at this; omega
  have e1 : fread (recB r ++ m) = (recFr r, (recFr r).body.length + 11, 0) := h1
  have h2 := recRead_fr h
  rw [rall_ok hne (by rw [e1]) (by rw [e1]; dsimp only; rw [h2]), e1]
  dsimp only
  rw [h2, ← hl2, List.drop_left]
theorem first_rec {r : Rc} (h : rightB r = true) (m : List UInt8) : firstL (recB r ++ m) = (r, (recB r).length, 0) := by
  have hl := recB_len h
  have e : (recB r ++ m).take 411 = recB r ++ m.take (411 - (recB r).length) := by
    rw [List.take_append, List.take_of_length_le hl.2]
  unfold firstL
  rw [e, rall_rec h]
  simp
/-- What is read at a place of a disk. -/
def readG (s : PS) (seg at' : UInt64) : Rc × Nat × Int :=
  if 10000000000 ≤ seg.toNat then (r0, 0, 1)
  else if rdE s (segN seg.toNat) ≠ 0 then (r0, 0, (rdE s (segN seg.toNat) : Nat))
  else if (rdB s (segN seg.toNat)).length ≤ at'.toNat then (r0, 0, 3)
  else firstL ((rdB s (segN seg.toNat)).drop at'.toNat)

/-! ### The log -/
structure LG where
  seg : UInt64
  at' : UInt64
  most : Int
  uns : UInt64
  beg : Bool
def mayB (seg : UInt64) (most : Int) : Bool := decide (64 ≤ most) && (decide (most ≤ 65536) && decide (seg.toNat < 10000000000))
def beginG (s : PS) (seg : UInt64) (most : Int) : Option LG × Nat × PS :=
  if mayB seg most = false then (none, 1, s)
  else if (creP s (segN seg.toNat)).1 ≠ 0 then (none, (creP s (segN seg.toNat)).1, (creP s (segN seg.toNat)).2)
  else (some ⟨seg, 0, most, seg, true⟩, 0, (creP s (segN seg.toNat)).2)
def openG (s : PS) (seg at' : UInt64) (most : Int) : Option LG × Nat × PS :=
  if mayB seg most = false then (none, 1, s)
  else if rdE s (segN seg.toNat) ≠ 0 then (none, rdE s (segN seg.toNat), s)
  else if (rdB s (segN seg.toNat)).length < at'.toNat then (none, 3, s)
  else if at'.toNat < (rdB s (segN seg.toNat)).length then
    (if (cutP s (segN seg.toNat) (at'.toNat : Int)).1 ≠ 0 then (none, (cutP s (segN seg.toNat) (at'.toNat : Int)).1, (cutP s (segN seg.toNat) (at'.toNat : Int)).2)
     else (some ⟨seg, at', most, seg + 1, false⟩, 0, (cutP s (segN seg.toNat) (at'.toNat : Int)).2))
  else (some ⟨seg, at', most, seg + 1, false⟩, 0, s)
def nextG (s : PS) (g : LG) : Nat × PS × LG :=
  if 10000000000 ≤ (g.seg + 1).toNat then (4, s, g)
  else if (creP s (segN (g.seg + 1).toNat)).1 ≠ 0 then ((creP s (segN (g.seg + 1).toNat)).1, (creP s (segN (g.seg + 1).toNat)).2, g)
  else (0, (creP s (segN (g.seg + 1).toNat)).2, { g with seg := g.seg + 1, at' := 0, beg := true })
def roomG (s : PS) (g : LG) (n : Nat) : Nat × PS × LG := if g.at' ≠ 0 ∧ g.most < g.at'.toNat + n then nextG s g else (0, s, g)
/-- What Append answers: an error, segment, place. -/
structure AG where
  e : Nat
  seg : UInt64
  at' : UInt64
  s : PS
  g : LG
def putG (s : PS) (g : LG) (b : List UInt8) : AG :=
  if (appP s (segN g.seg.toNat) b).1 ≠ 0 then ⟨(appP s (segN g.seg.toNat) b).1, 0, 0, (appP s (segN g.seg.toNat) b).2, g⟩
  else ⟨0, g.seg, g.at', (appP s (segN g.seg.toNat) b).2, { g with at' := g.at' + UInt64.ofNat b.length, uns := if g.seg < g.uns then g.seg else g.uns }⟩
def appG (s : PS) (g : LG) (r : Rc) : AG :=
  if rightB r = false then ⟨1, 0, 0, s, g⟩
  else if (roomG s g (recB r).length).1 ≠ 0 then ⟨(roomG s g (recB r).length).1, 0, 0, (roomG s g (recB r).length).2.1, (roomG s g (recB r).length).2.2⟩
  else putG (roomG s g (recB r).length).2.1 (roomG s g (recB r).length).2.2 (recB r)
/-- Sync of segments, one by one. -/
def synN : Nat → Nat → PS → Nat × PS
  | 0, _, s => (0, s)
  | k + 1, a, s => if (synP s (segN a)).1 ≠ 0 then synP s (segN a) else synN k (a + 1) (synP s (segN a)).2
def synG (s : PS) (g : LG) : Nat × PS × LG :=
  let r := synN (g.seg.toNat + 1 - g.uns.toNat) g.uns.toNat s
  if r.1 ≠ 0 then (r.1, r.2, g)
  else if g.beg then (if (dsyP r.2).1 ≠ 0 then ((dsyP r.2).1, (dsyP r.2).2, g) else (0, (dsyP r.2).2, { g with uns := g.seg + 1, beg := false }))
  else (0, r.2, { g with uns := g.seg + 1, beg := false })
theorem wf_next {s : PS} (h : WF s) (g : LG) : WF (nextG s g).2.1 := by
  unfold nextG
  split
  · exact h
  · split <;> exact h.cre _
theorem wf_room {s : PS} (h : WF s) (g : LG) (n : Nat) : WF (roomG s g n).2.1 := by
  unfold roomG
  split
  · exact wf_next h g
  · exact h
theorem wf_put {s : PS} (h : WF s) (g : LG) (b : List UInt8) : WF (putG s g b).s := by
  unfold putG
  split <;> exact h.app _ _
theorem wf_appG {s : PS} (h : WF s) (g : LG) (r : Rc) : WF (appG s g r).s := by
  unfold appG
  split
  · exact h
  · split
    · exact wf_room h _ _
    · exact wf_put (wf_room h _ _) _ _
theorem wf_synN : ∀ (k a : Nat) {s : PS}, WF s → WF (synN k a s).2
  | 0, _, _, h => h
  | k + 1, a, s, h => by
    unfold synN
    split
    · exact h.syn _
    · exact wf_synN k (a + 1) (h.syn _)
theorem wf_synG {s : PS} (h : WF s) (g : LG) : WF (synG s g).2.1 := by
  have h1 := wf_synN (g.seg.toNat + 1 - g.uns.toNat) g.uns.toNat h
  unfold synG
  dsimp only
  split
  · exact h1
  · split
    · split <;> exact h1.dsy
    · exact h1
theorem wf_beginG {s : PS} (h : WF s) (seg : UInt64) (most : Int) : WF (beginG s seg most).2.2 := by
  unfold beginG
  split
  · exact h
  · split <;> exact h.cre _
theorem wf_openG {s : PS} (h : WF s) (seg at' : UInt64) (most : Int) : WF (openG s seg at' most).2.2 := by
  unfold openG
  split
  · exact h
  · split
    · exact h
    · split
      · exact h
      · split
        · split <;> exact h.cut _ _
        · exact h
/-- How many changes of the directory there are. -/
theorem doP_opn (s : PS) (e : Nat) (act : PS → PS) (n : Nat) (h0 : s.opn.length ≤ n) (h1 : ∀ s', s'.opn = s.opn → (act s').opn.length ≤ n) : (doP s e act).2.opn.length ≤ n := by
  unfold doP
  split
  · exact h0
  · split
    · exact h0
    · split
      · exact h0
      · exact h1 _ rfl
theorem cre_opn (s : PS) (n : Nm) : (creP s n).2.opn.length ≤ s.opn.length + 1 := doP_opn _ _ _ _ (by omega) fun s' h => by simp [h]
theorem app_opn (s : PS) (n : Nm) (b : List UInt8) : (appP s n b).2.opn.length ≤ s.opn.length := doP_opn _ _ _ _ (Nat.le_refl _) fun s' h => by simp [h]
theorem syn_opn (s : PS) (n : Nm) : (synP s n).2.opn.length ≤ s.opn.length := doP_opn _ _ _ _ (Nat.le_refl _) fun s' h => by simp [h]
theorem room_opn (s : PS) (g : LG) (n : Nat) : (roomG s g n).2.1.opn.length ≤ s.opn.length + 1 := by
  unfold roomG nextG
  split
  · split
    · dsimp only; omega
    · split <;> exact cre_opn _ _
  · dsimp only; omega
theorem appG_opn (s : PS) (g : LG) (r : Rc) : (appG s g r).s.opn.length ≤ s.opn.length + 1 := by
  unfold appG
  split
  · dsimp only; omega
  · split
    · exact room_opn _ _ _
    · unfold putG
      have := room_opn s g (recB r).length
      split
      · have := app_opn (roomG s g (recB r).length).2.1 (segN (roomG s g (recB r).length).2.2.seg.toNat) (recB r)
        dsimp only at this ⊢; omega
      · have := app_opn (roomG s g (recB r).length).2.1 (segN (roomG s g (recB r).length).2.2.seg.toNat) (recB r)
        dsimp only at this ⊢; omega
theorem synN_opn : ∀ (k a : Nat) (s : PS), (synN k a s).2.opn.length ≤ s.opn.length
  | 0, _, s => Nat.le_refl _
  | k + 1, a, s => by
    unfold synN
    split
    · exact syn_opn _ _
    · exact Nat.le_trans (synN_opn k _ _) (syn_opn _ _)
/-- A right log: its segment may be, its place is no more than a file may have. -/
structure GOk (g : LG) : Prop where
  sg : g.seg.toNat < 10000000000
  at' : g.at'.toNat ≤ 1048576 + 411
  mo : 64 ≤ g.most ∧ g.most ≤ 65536
  un : g.uns.toNat ≤ 10000000000
end Go.Proofs.YtinancnlangkjaaGreatDoor

set_option linter.unusedSimpArgs false
set_option linter.unusedVariables false
namespace Go.Proofs.YtinancnlangkjaaGreatDoor
open Go Go.RowKit Go.Tum Go.ChangeMaps Go.Tum.Crc Go.Nam

def fsOpn (a k : Nat) : List Chg := (List.range k).map fun i => ⟨[], segN (a + i), some i⟩
/-- A disk whose files are segments a, a + 1, .. -/
def fsS (R a : Nat) (L : List (List UInt8)) : PS := ⟨R, L.map fun b => (b, 0), [], fsOpn a L.length, -1, false⟩
theorem fsOpn_succ (a k : Nat) : fsOpn a (k + 1) = fsOpn a k ++ [⟨[], segN (a + k), some k⟩] := by
  unfold fsOpn
  rw [List.range_succ, List.map_append]
  rfl
theorem fs_step (a k : Nat) : dirAt [] (fsOpn a (k + 1)) = inN (noN (noN (dirAt [] (fsOpn a k)) []) (segN (a + k))) (segN (a + k)) k := by
  rw [fsOpn_succ]
  unfold dirAt
  rw [List.foldl_append]
  rfl
structure FsD (a k : Nat) (d : Dir) : Prop where
  lk : ∀ i, i < k → look d (segN (a + i)) = some i
  no : ∀ y, (∀ i, i < k → y ≠ segN (a + i)) → look d y = none
  ln : d.length = k
theorem fs_dir (a : Nat) : ∀ k, a + k ≤ 10000000000 → FsD a k (dirAt [] (fsOpn a k))
  | 0, _ => ⟨fun i h => absurd h (by omega), fun y _ => rfl, rfl⟩
  | k + 1, h => by
    have ih := fs_dir a k (by omega)
    rw [fs_step]
    have e1 : noN (dirAt [] (fsOpn a k)) [] = dirAt [] (fsOpn a k) := noN_same (ih.no [] fun i hi e => segN_ne _ e.symm)
    have hn : look (dirAt [] (fsOpn a k)) (segN (a + k)) = none := ih.no _ fun i hi e => by
      have := segN_inj (by omega) (by omega) e
      omega
    have e2 : noN (dirAt [] (fsOpn a k)) (segN (a + k)) = dirAt [] (fsOpn a k) := noN_same hn
    rw [e1, e2]
    refine ⟨fun i hi => ?_, fun y hy => ?_, by rw [inN_len, ih.ln]⟩
    · rw [look_inN hn]
      by_cases e : i = k
      · subst e; rw [if_pos rfl]
      · rw [if_neg (fun q => e (by have := segN_inj (by omega) (by omega) q; omega)), ih.lk i (by omega)]
    · rw [look_inN hn, if_neg (hy k (by omega))]
      exact ih.no y fun i hi => hy i (by omega)
theorem fsS_dir (R a : Nat) (L : List (List UInt8)) : (fsS R a L).dir = dirAt [] (fsOpn a L.length) := rfl
theorem fs_new (a k : Nat) : newOf (fsOpn a k) = List.range k := by
  induction k with
  | zero => rfl
  | succ k ih =>
    rw [fsOpn_succ, newOf_append, ih, List.range_succ]
    rfl
theorem sum_range (L : List (List UInt8)) (fs : List (List UInt8 × Nat)) (h : fs.map Prod.fst = L) : sumL fs (List.range L.length) = (L.map List.length).sum := by
  unfold sumL
  congr 1
  refine List.ext_getElem (by simp) fun i h1 h2 => ?_
  have hl : fs.length = L.length := by rw [← h, List.length_map]
  have hi : i < L.length := by simpa using h2
  rw [List.getElem_map, List.getElem_range, List.getElem_map]
  unfold flen
  rw [List.getD_eq_getElem?_getD, List.getElem?_eq_getElem (by omega)]
  have : (fs.map Prod.fst)[i]'(by rw [List.length_map]; omega) = L[i] := by simp only [h]
  rw [List.getElem_map] at this
  rw [Option.getD_some, this]
theorem fs_held (R a : Nat) (L : List (List UInt8)) : held (fsS R a L) = (L.map List.length).sum := by
  unfold held cntd
  show sumL (L.map fun b => (b, 0)) ([] ++ newOf (fsOpn a L.length)) = _
  rw [fs_new, List.nil_append]
  exact sum_range L _ (by rw [List.map_map]; exact List.map_id' _)
theorem doP_go {s : PS} {e : Nat} {act : PS → PS} (hd : s.down = false) (he : e = 0) (hf : s.fuse = -1) : doP s e act = (0, act { s with fuse := -1 }) := by
  unfold doP
  rw [if_neg (by rw [hd]; decide), if_neg (by simp [he]), if_neg (by rw [hf]; decide), hf]
  rfl
theorem fs_cre (R a : Nat) (L : List (List UInt8)) (h : a + L.length < 10000000000) (hl : L.length < 60) : creP (fsS R a L) (segN (a + L.length)) = (0, fsS R a (L ++ [[]])) := by
  have hD := fs_dir a L.length (by omega)
  have he : creE (fsS R a L) (segN (a + L.length)) = 0 := by
    unfold creE
    have hn : look (fsS R a L).dir (segN (a + L.length)) = none := hD.no _ fun i hi e => by
      have := segN_inj (by omega) (by omega) e
      omega
    rw [segN_ok h, hn, if_neg (by decide), if_neg (by decide), if_neg (by rw [fsS_dir, hD.ln]; omega)]
  unfold creP
  rw [doP_go rfl he rfl]
  unfold fsS
  simp only [List.length_append, List.length_singleton, List.map_append, List.length_map, List.map_cons, List.map_nil, fsOpn_succ]
theorem fs_look (R a : Nat) (L : List (List UInt8)) {i : Nat} (h : a + L.length ≤ 10000000000) (hi : i < L.length) : look (fsS R a L).dir (segN (a + i)) = some i := (fs_dir a L.length h).lk i hi
theorem mod_last {α : Type} (l : List α) (x : α) (g : α → α) : (l ++ [x]).modify l.length g = l ++ [g x] := by
  refine List.ext_getElem (by simp) fun i h1 h2 => ?_
  rw [List.getElem_modify]
  by_cases e : l.length = i
  · subst e
    simp
  · rw [if_neg e]
    have : i < l.length := by simp at h2; omega
    rw [List.getElem_append_left this, List.getElem_append_left this]
theorem fs_app (R a : Nat) (D : List (List UInt8)) (c b : List UInt8) (h : a + D.length < 10000000000) (hr : ((D ++ [c]).map List.length).sum + b.length ≤ R) :
    appP (fsS R a (D ++ [c])) (segN (a + D.length)) b = (0, fsS R a (D ++ [c ++ b])) := by
  have hk := fs_look R a (D ++ [c]) (i := D.length) (by simp; omega) (by simp)
  have he : appE (fsS R a (D ++ [c])) (segN (a + D.length)) b = 0 := by
    unfold appE
    rw [hk, if_neg (by simp), fs_held, if_neg]
    show ¬ R < _
    omega
  unfold appP
  rw [doP_go rfl he rfl]
  refine Prod.ext rfl ?_
  show ({ fsS R a (D ++ [c]) with fuse := -1, files := setF (fsS R a (D ++ [c])).files (look (fsS R a (D ++ [c])).dir (segN (a + D.length))) fun x => (x.1 ++ b, x.2) } : PS) = _
  rw [hk]
  show ({ fsS R a (D ++ [c]) with fuse := -1, files := ((D ++ [c]).map fun b => (b, 0)).modify D.length fun x => (x.1 ++ b, x.2) } : PS) = _
  have : ((D ++ [c]).map fun b => (b, 0)).modify D.length (fun x => (x.1 ++ b, x.2)) = (D ++ [c ++ b]).map fun b => (b, 0) := by
    rw [List.map_append, List.map_append]
    have := mod_last (D.map fun b : List UInt8 => (b, 0)) (c, 0) fun x => (x.1 ++ b, x.2)
    rw [List.length_map] at this
    exact this
  rw [this]
  unfold fsS
  simp only [List.length_append, List.length_singleton]
theorem fs_cut (R a : Nat) (D : List (List UInt8)) (c : List UInt8) (k : Nat) (h : a + D.length < 10000000000) (hk : k ≤ c.length) :
    cutP (fsS R a (D ++ [c])) (segN (a + D.length)) (k : Int) = (0, fsS R a (D ++ [c.take k])) := by
  have hl := fs_look R a (D ++ [c]) (i := D.length) (by simp; omega) (by simp)
  have hf : flen (fsS R a (D ++ [c])).files D.length = c.length := by
    show flen ((D ++ [c]).map fun b => (b, 0)) D.length = _
    unfold flen
    rw [List.map_append, List.getD_eq_getElem?_getD, List.getElem?_append_right (by simp)]
    simp
  have he : cutE (fsS R a (D ++ [c])) (segN (a + D.length)) (k : Int) = 0 := by
    unfold cutE
    rw [hl]
    dsimp only
    rw [hf, if_neg (by omega)]
  unfold cutP
  rw [doP_go rfl he rfl]
  refine Prod.ext rfl ?_
  show ({ fsS R a (D ++ [c]) with fuse := -1, files := setF (fsS R a (D ++ [c])).files (look (fsS R a (D ++ [c])).dir (segN (a + D.length))) fun x => (x.1.take (k : Int).toNat, min x.2 (k : Int).toNat) } : PS) = _
  rw [hl]
  show ({ fsS R a (D ++ [c]) with fuse := -1, files := ((D ++ [c]).map fun b => (b, 0)).modify D.length fun x => (x.1.take (k : Int).toNat, min x.2 (k : Int).toNat) } : PS) = _
  have : ((D ++ [c]).map fun b => (b, 0)).modify D.length (fun x => (x.1.take (k : Int).toNat, min x.2 (k : Int).toNat)) = (D ++ [c.take k]).map fun b => (b, 0) := by
    rw [List.map_append, List.map_append]
    have := mod_last (D.map fun b : List UInt8 => (b, 0)) (c, 0) fun x => (x.1.take (k : Int).toNat, min x.2 (k : Int).toNat)
    rw [List.length_map] at this
    rw [show List.map (fun b : List UInt8 => (b, 0)) [c] = [(c, 0)] from rfl, this]
    simp
  rw [this]
  unfold fsS
  simp only [List.length_append, List.length_singleton]
theorem fs_rd (R a : Nat) (L : List (List UInt8)) {i : Nat} (h : a + L.length ≤ 10000000000) (hi : i < L.length) : rdE (fsS R a L) (segN (a + i)) = 0 ∧ rdB (fsS R a L) (segN (a + i)) = L[i] := by
  have hl := fs_look R a L h hi
  constructor
  · unfold rdE
    rw [hl]
    rfl
  · unfold rdB
    rw [hl]
    show (((L.map fun b => (b, 0)).getD i ([], 0))).1 = _
    rw [List.getD_eq_getElem?_getD, List.getElem?_map, List.getElem?_eq_getElem hi]
    rfl
/-- What the log knows of it. -/
structure GF (g : LG) (a : Nat) (most : Int) (D : List (List UInt8)) (c : List UInt8) : Prop where
  sg : g.seg.toNat = a + D.length
  at' : g.at'.toNat = c.length
  mo : g.most = most
/-- A record more: the segments, the last one, the place. -/
def putF (most : Int) (D : List (List UInt8)) (c b : List UInt8) : List (List UInt8) × List UInt8 := if c ≠ [] ∧ most < (c.length + b.length : Nat) then (D ++ [c], b) else (D, c ++ b)
def putA (most : Int) (c b : List UInt8) : Nat := if c ≠ [] ∧ most < (c.length + b.length : Nat) then 0 else c.length
theorem u64_small {n : Nat} (h : n < 18446744073709551616) : (UInt64.ofNat n).toNat = n := by
  rw [UInt64.toNat_ofNat']
  omega
theorem fs_put {R a : Nat} {most : Int} {D : List (List UInt8)} {c : List UInt8} {g : LG} {r : Rc} (hg : GF g a most D c) (hr : rightB r = true) (ha : a ≤ 100000) (hD : D.length ≤ 51) (hs : ((D ++ [c]).map List.length).sum + (recB r).length ≤ R) (hR : R ≤ 1048576) :
    ∃ g', appG (fsS R a (D ++ [c])) g r = ⟨0, g'.seg, UInt64.ofNat (putA most c (recB r)), fsS R a ((putF most D c (recB r)).1 ++ [(putF most D c (recB r)).2]), g'⟩ ∧ GF g' a most (putF most D c (recB r)).1 (putF most D c (recB r)).2 ∧
      (g.uns.toNat ≤ a → g'.uns = g.uns) ∧ (g.beg = true → g'.beg = true) := by
  have hl := recB_len hr
  obtain ⟨b, hb⟩ : ∃ b, recB r = b := ⟨_, rfl⟩
  have hcl : c.length ≤ R := by
    rw [List.map_append, List.sum_append] at hs
    simp at hs; omega
  have hat : g.at' ≠ 0 ↔ c ≠ [] := by
    constructor
    · intro h e
      refine h (UInt64.toNat_inj.1 ?_)
      rw [hg.at', e]
      rfl
    · intro h e
      have := hg.at'
      rw [e] at this
      exact h (List.length_eq_zero_iff.1 this.symm)
  have hfull : ∀ (D' : List (List UInt8)) (c' : List UInt8) (g1 : LG), GF g1 a most D' c' → D'.length ≤ 52 → ((D' ++ [c']).map List.length).sum + b.length ≤ R → c'.length ≤ R →
      putG (fsS R a (D' ++ [c'])) g1 b = ⟨0, g1.seg, g1.at', fsS R a (D' ++ [c' ++ b]), { g1 with at' := g1.at' + UInt64.ofNat b.length, uns := if g1.seg < g1.uns then g1.seg else g1.uns }⟩ := fun D' c' g1 h1 h2 h3 h4 => by
    unfold putG
    rw [h1.sg, fs_app R a D' c' b (by omega) h3, if_neg (by simp)]
  unfold appG
  rw [hr, if_neg (by decide), hb]
  rw [hb] at hl hs
  unfold putF putA roomG
  by_cases hc : c ≠ [] ∧ most < (c.length + b.length : Nat)
  · have hc' : g.at' ≠ 0 ∧ g.most < (g.at'.toNat : Int) + (b.length : Int) := ⟨hat.2 hc.1, by rw [hg.mo, hg.at']; have := hc.2; omega⟩
    rw [if_pos hc, if_pos hc, if_pos hc']
    have hsg : (g.seg + 1).toNat = a + (D ++ [c]).length := by
      rw [UInt64.toNat_add, hg.sg, show (1 : UInt64).toNat = 1 from rfl, List.length_append, List.length_singleton]
      omega
    have hn : nextG (fsS R a (D ++ [c])) g = (0, fsS R a ((D ++ [c]) ++ [[]]), { g with seg := g.seg + 1, at' := 0, beg := true }) := by
      unfold nextG
      rw [hsg, if_neg (by simp only [List.length_append, List.length_singleton]; omega), fs_cre R a (D ++ [c]) (by simp only [List.length_append, List.length_singleton]; omega) (by simp only [List.length_append, List.length_singleton]; omega), if_neg (by simp)]
    rw [hn, if_neg (by simp)]
    have hG : GF { g with seg := g.seg + 1, at' := 0, beg := true } a most (D ++ [c]) [] := ⟨hsg, rfl, hg.mo⟩
    dsimp only
    rw [hfull (D ++ [c]) [] _ hG (by simp only [List.length_append, List.length_singleton]; omega) (by rw [List.map_append, List.sum_append]; simp only [List.map_cons, List.map_nil, List.sum_cons, List.sum_nil, List.length_nil]; omega) (by simp)]
    refine ⟨{ seg := g.seg + 1, at' := (0 : UInt64) + UInt64.ofNat b.length, most := g.most, uns := if g.seg + 1 < g.uns then g.seg + 1 else g.uns, beg := true }, rfl, ⟨hsg, ?_, hg.mo⟩, fun hu => ?_, fun _ => rfl⟩
    · show ((0 : UInt64) + UInt64.ofNat b.length).toNat = b.length
      rw [UInt64.toNat_add, u64_small (by omega), show (0 : UInt64).toNat = 0 from rfl]
      omega
    · show (if g.seg + 1 < g.uns then g.seg + 1 else g.uns) = g.uns
      rw [if_neg]
      intro h
      rw [UInt64.lt_iff_toNat_lt, hsg] at h
      omega
  · have hc' : ¬ (g.at' ≠ 0 ∧ g.most < (g.at'.toNat : Int) + (b.length : Int)) := fun q => hc ⟨hat.1 q.1, by have := q.2; rw [hg.mo, hg.at'] at this; omega⟩
    rw [if_neg hc, if_neg hc, if_neg hc', if_neg (by simp)]
    dsimp only
    rw [hfull D c g hg (by omega) (by omega) hcl]
    have hga : g.at' = UInt64.ofNat c.length := by
      refine UInt64.toNat_inj.1 ?_
      rw [hg.at', u64_small (by omega)]
    refine ⟨{ g with at' := g.at' + UInt64.ofNat b.length, uns := if g.seg < g.uns then g.seg else g.uns }, by rw [← hga], ⟨hg.sg, ?_, hg.mo⟩, fun hu => ?_, fun h => h⟩
    · show (g.at' + UInt64.ofNat b.length).toNat = (c ++ b).length
      rw [UInt64.toNat_add, hg.at', u64_small (by omega), List.length_append]
      omega
    · show (if g.seg < g.uns then g.seg else g.uns) = g.uns
      rw [if_neg]
      intro h
      rw [UInt64.lt_iff_toNat_lt, hg.sg] at h
      omega
/-- A place: its record, segment, place. -/
structure Plc where
  r : Rc
  seg : UInt64
  at' : UInt64
/-- .. in segments a, a + 1, ..: what stands there. -/
def PlIn (a : Nat) (L : List (List UInt8)) (p : Plc) : Prop := rightB p.r = true ∧ ∃ i, ∃ h : i < L.length, p.seg.toNat = a + i ∧ ∃ x y, L[i] = x ++ (recB p.r ++ y) ∧ x.length = p.at'.toNat
theorem PlIn.grow {a : Nat} {L M : List (List UInt8)} {p : Plc} (h : PlIn a L p) (hl : L.length ≤ M.length) (hm : ∀ i (h1 : i < L.length) (h2 : i < M.length), L[i] <+: M[i]) : PlIn a M p := by
  obtain ⟨hr, i, hi, h1, x, y, h2, h3⟩ := h
  obtain ⟨z, hz⟩ := hm i hi (by omega)
  exact ⟨hr, i, by omega, h1, x, y ++ z, by rw [← hz, h2]; simp, h3⟩
theorem putF_sum (most : Int) (D : List (List UInt8)) (c b : List UInt8) : (((putF most D c b).1 ++ [(putF most D c b).2]).map List.length).sum = ((D ++ [c]).map List.length).sum + b.length := by
  unfold putF
  split <;> simp <;> omega
theorem putF_len (most : Int) (D : List (List UInt8)) (c b : List UInt8) : D.length ≤ (putF most D c b).1.length ∧ (putF most D c b).1.length ≤ D.length + 1 := by
  unfold putF
  split <;> simp
theorem putF_grow (most : Int) (D : List (List UInt8)) (c b : List UInt8) : (D ++ [c]).length ≤ ((putF most D c b).1 ++ [(putF most D c b).2]).length ∧ ∀ i (h1 : i < (D ++ [c]).length) (h2 : i < ((putF most D c b).1 ++ [(putF most D c b).2]).length), (D ++ [c])[i] <+: ((putF most D c b).1 ++ [(putF most D c b).2])[i] := by
  unfold putF
  split
  · refine ⟨by simp, fun i h1 h2 => ?_⟩
    rw [List.getElem_append_left h1]
    exact List.prefix_refl _
  · refine ⟨by simp, fun i h1 h2 => ?_⟩
    by_cases e : i < D.length
    · rw [List.getElem_append_left e, List.getElem_append_left e]
      exact List.prefix_refl _
    · have : i = D.length := by simp at h1; omega
      subst this
      simp
theorem putF_new {a : Nat} {most : Int} {D : List (List UInt8)} {c : List UInt8} {g' : LG} {r : Rc} (hr : rightB r = true) (hG : GF g' a most (putF most D c (recB r)).1 (putF most D c (recB r)).2) (hc : c.length ≤ 1048576) :
    PlIn a ((putF most D c (recB r)).1 ++ [(putF most D c (recB r)).2]) ⟨r, g'.seg, UInt64.ofNat (putA most c (recB r))⟩ := by
  refine ⟨hr, (putF most D c (recB r)).1.length, by simp, hG.sg, if c ≠ [] ∧ most < (c.length + (recB r).length : Nat) then [] else c, [], ?_, ?_⟩
  · rw [List.getElem_append_right (Nat.le_refl _)]
    simp only [Nat.sub_self, List.getElem_cons_zero, List.append_nil]
    unfold putF
    split <;> simp
  · dsimp only
    unfold putA
    rw [u64_small (by split <;> omega)]
    split <;> rfl
/-- What is read of a place. -/
theorem PlIn.rd {a : Nat} {L : List (List UInt8)} {p : Plc} (h : PlIn a L p) (hL : a + L.length ≤ 10000000000) {s : PS} (hs : ∀ i (hi : i < L.length), rdE s (segN (a + i)) = 0 ∧ L[i] <+: rdB s (segN (a + i))) : readG s p.seg p.at' = (p.r, (recB p.r).length, 0) := by
  obtain ⟨hr, i, hi, h1, x, y, h2, h3⟩ := h
  obtain ⟨k1, z, k2⟩ := hs i hi
  have hl := recB_len hr
  unfold readG
  rw [h1, if_neg (by omega), k1, if_neg (by simp), ← k2, h2, if_neg (by simp only [List.length_append]; omega)]
  have : ((x ++ (recB p.r ++ y)) ++ z).drop p.at'.toNat = recB p.r ++ (y ++ z) := by
    rw [List.append_assoc, ← h3, List.drop_left, List.append_assoc]
  rw [this, first_rec hr]
theorem fs_rds (R a : Nat) (L : List (List UInt8)) (h : a + L.length ≤ 10000000000) : ∀ i (hi : i < L.length), rdE (fsS R a L) (segN (a + i)) = 0 ∧ L[i] <+: rdB (fsS R a L) (segN (a + i)) := fun i hi => by
  obtain ⟨h1, h2⟩ := fs_rd R a L h hi
  exact ⟨h1, by rw [h2]; exact List.prefix_refl _⟩
end Go.Proofs.YtinancnlangkjaaGreatDoor

namespace Go.Tum.Crc

theorem flip_take (l : List UInt8) (k n : Nat) : (flip l k).take n = if k / 8 < n then flip (l.take n) k else l.take n := by
  unfold flip
  by_cases h : k / 8 < n
  · rw [if_pos h, List.take_set]
    congr 2
    simp only [List.getD_eq_getElem?_getD]
    rw [List.getElem?_take, if_pos h]
  · rw [if_neg h, List.take_set_of_le (by omega)]
theorem flip_drop (l : List UInt8) (k n : Nat) : (flip l k).drop n = if n ≤ k / 8 then flip (l.drop n) (k - 8 * n) else l.drop n := by
  unfold flip
  by_cases h : n ≤ k / 8
  · have e1 : (k - 8 * n) / 8 = k / 8 - n := by omega
    have e2 : (k - 8 * n) % 8 = k % 8 := by omega
    rw [if_pos h, e1, e2, List.drop_set, if_neg (by omega)]
    congr 2
    simp only [List.getD_eq_getElem?_getD]
    rw [List.getElem?_drop]
    congr 2; omega
  · rw [if_neg h, List.drop_set, if_pos (by omega)]
theorem turnN_take (at_ : Int) (t : Nat) (l : List UInt8) (n : Nat) (hn : n ≤ l.length) : ∀ i, (turnN at_ t l i).take n = turnN at_ t (l.take n) i
  | 0 => rfl
  | i + 1 => by
    have ih := turnN_take at_ t l n hn i
    have hl : (l.take n).length = n := by simp; omega
    unfold turnN
    by_cases h : turnHit at_ t i l.length = true
    · rw [if_pos h, flip_take, ih]
      simp only [turnHit, Bool.and_eq_true, decide_eq_true_eq] at h
      by_cases h2 : (at_ + i).toNat / 8 < n
      · rw [if_pos h2, if_pos (by simp only [turnHit, Bool.and_eq_true, decide_eq_true_eq, hl]; exact ⟨⟨h.1.1, h.1.2⟩, by omega⟩)]
      · rw [if_neg h2, if_neg (by simp only [turnHit, Bool.and_eq_true, decide_eq_true_eq, hl]; intro h3; omega)]
    · rw [if_neg h, ih, if_neg (by
        simp only [turnHit, Bool.and_eq_true, decide_eq_true_eq, hl] at h ⊢
        intro h3; exact h ⟨h3.1, by omega⟩)]
theorem turnN_drop (at_ : Int) (t : Nat) (l : List UInt8) (n : Nat) (hn : n ≤ l.length) : ∀ i, (turnN at_ t l i).drop n = turnN (at_ - 8 * n) t (l.drop n) i
  | 0 => rfl
  | i + 1 => by
    have ih := turnN_drop at_ t l n hn i
    have hl : (l.drop n).length = l.length - n := by simp
    unfold turnN
    by_cases h : turnHit at_ t i l.length = true
    · rw [if_pos h, flip_drop, ih]
      simp only [turnHit, Bool.and_eq_true, decide_eq_true_eq] at h
      by_cases h2 : n ≤ (at_ + i).toNat / 8
      · rw [if_pos h2, if_pos (by simp only [turnHit, Bool.and_eq_true, decide_eq_true_eq, hl]; exact ⟨⟨h.1.1, by omega⟩, by omega⟩)]
        congr 1; omega
      · rw [if_neg h2, if_neg (by simp only [turnHit, Bool.and_eq_true, decide_eq_true_eq, hl]; intro h3; omega)]
    · rw [if_neg h, ih, if_neg (by
        simp only [turnHit, Bool.and_eq_true, decide_eq_true_eq, hl] at h ⊢
        intro h3; exact h ⟨⟨h3.1.1, by omega⟩, by omega⟩)]

/-- A frame that is turned is none. -/
theorem fread_turned (x : Fr) (hx : x.body.length ≤ 400) (at_ : Int) (t : Nat) (more : List UInt8) (hne : turnN at_ t (fbytes x) 32 ≠ fbytes x) :
    fread (turnN at_ t (fbytes x) 32 ++ more) = (f0, 0, 8) := by
  have hlen := fbytes_length x
  have hpl := turnN_length at_ t (fbytes x) 32
  have h1 := turnN_take at_ t (fbytes x) 7 (by omega) 32
  have h2 := turnN_drop at_ t (fbytes x) 7 (by omega) 32
  have e1 : (fbytes x).take 7 = put (hd x) := by simpa using fbytes_head x []
  have e2 : (fbytes x).drop 7 = put x.body := by simpa using fbytes_tail x []
  rw [e1] at h1
  rw [e2] at h2
  have hA : (turnN at_ t (fbytes x) 32 ++ more).take 7 = turnN at_ t (put (hd x)) 32 := by
    rw [List.take_append_of_le_length (by omega), h1]
  unfold fread
  rw [if_neg (by simp; omega), hA]
  by_cases hh : turnN at_ t (put (hd x)) 32 = put (hd x)
  · rw [hh, if_neg (by simp [isPut_put])]
    rw [hh] at hA
    have hf := flen_of hA hx
    rw [hf, if_neg (by omega), if_neg (by simp; omega)]
    have hB : ((turnN at_ t (fbytes x) 32 ++ more).drop 7).take (x.body.length + 4) = turnN (at_ - 8 * (7 : Nat)) t (put x.body) 32 := by
      rw [List.drop_append_of_le_length (by omega), h2, List.take_append_of_le_length (by rw [turnN_length]; simp [put_length])]
      exact List.take_of_length_le (by rw [turnN_length]; simp [put_length])
    rw [hB, if_pos]
    refine burst _ _ _ (isPut_put _) fun h3 => hne ?_
    rw [← List.take_append_drop 7 (turnN at_ t (fbytes x) 32), h1, h2, hh, h3]
    rfl
  · rw [if_pos (burst _ _ _ (isPut_put _) hh)]

/-- Frames one behind the other: where each ends. -/
def fcat : List Fr → List UInt8
  | [] => []
  | x :: r => fbytes x ++ fcat r
def fends : Nat → List Fr → List Nat
  | _, [] => []
  | k, x :: r => (k + (x.body.length + 11)) :: fends (k + (x.body.length + 11)) r
/-- How many are whole ahead of a cut, and where the last one ends. -/
def wholes (cut : Nat) : List Nat → Nat × Nat → Nat × Nat
  | [], s => s
  | e :: r, s => wholes cut r (if e ≤ cut then (s.1 + 1, e) else s)
theorem wholes_none (cut : Nat) : ∀ (l : List Fr) (k : Nat) (s : Nat × Nat), cut < k → wholes cut (fends k l) s = s
  | [], _, _, _ => rfl
  | x :: r, k, s, h => by
    simp only [fends, wholes]
    rw [if_neg (by omega)]
    exact wholes_none cut r _ s (by omega)
theorem fall_torn : ∀ (l : List Fr) (c : Nat), (∀ x ∈ l, x.body.length ≤ 400) → c ≤ (fcat l).length →
    ∀ (k n : Nat), wholes (k + c) (fends k l) (n, k) = (n + (fall ((fcat l).take c)).1.length, k + (fall ((fcat l).take c)).2.1) ∧ (fall ((fcat l).take c)).1 = l.take (fall ((fcat l).take c)).1.length ∧
      (fall ((fcat l).take c)).2.1 ≤ c ∧ ((fall ((fcat l).take c)).2.1 < c → (fall ((fcat l).take c)).2.2 = 3)
  | [], c, _, hc, k, n => by
    obtain rfl : c = 0 := by simpa [fcat] using hc
    simp [fcat, fends, wholes, fall_nil]
  | x :: r, c, hl, hc, k, n => by
    have hx := hl x (by simp)
    have hlx := fbytes_length x
    simp only [fcat, List.length_append] at hc
    by_cases h : c < x.body.length + 11
    · have e1 : (fbytes x ++ fcat r).take c = (fbytes x).take c := List.take_append_of_le_length (by omega)
      simp only [fcat, e1, fends, wholes]
      rw [if_neg (by omega), wholes_none _ _ _ _ (by omega)]
      by_cases h0 : c = 0
      · subst h0; simp [fall_nil]
      · have hne : (fbytes x).take c ≠ [] := by intro h1; have := congrArg List.length h1; rw [List.length_take, List.length_nil] at this; omega
        have hs := fread_short x c hx h
        rw [fall_err hne (by rw [hs]; decide), hs]
        simp
    · have hr := fread_fbytes x ((fcat r).take (c - (x.body.length + 11))) hx
      have e1 : (fbytes x ++ fcat r).take c = fbytes x ++ (fcat r).take (c - (x.body.length + 11)) := by
        rw [List.take_append]
        rw [List.take_of_length_le (by omega), hlx]
      have hne : fbytes x ++ (fcat r).take (c - (x.body.length + 11)) ≠ [] := by intro h1; have := congrArg List.length h1; rw [List.length_append, List.length_nil] at this; omega
      have ed : (fbytes x ++ (fcat r).take (c - (x.body.length + 11))).drop (x.body.length + 11) = (fcat r).take (c - (x.body.length + 11)) := by rw [← hlx, List.drop_left]
      have ih := fall_torn r (c - (x.body.length + 11)) (fun y hy => hl y (List.mem_cons_of_mem _ hy)) (by omega) (k + (x.body.length + 11)) (n + 1)
      simp only [fcat, e1, fends, wholes]
      rw [if_pos (by omega), fall_ok hne (by rw [hr]), hr]
      simp only [ed]
      generalize fall ((fcat r).take (c - (x.body.length + 11))) = F at ih ⊢
      have ec : k + (x.body.length + 11) + (c - (x.body.length + 11)) = k + c := by omega
      rw [ec] at ih
      refine ⟨?_, ?_, ?_, ?_⟩
      · rw [ih.1]; simp only [List.length_cons, Prod.mk.injEq]; omega
      · simp only [List.length_cons, List.take_succ_cons, List.cons.injEq, true_and]; exact ih.2.1
      · have := ih.2.2.1; omega
      · intro h3; exact ih.2.2.2 (by omega)
theorem fcat_snoc : ∀ (l : List Fr) (x : Fr), fcat (l ++ [x]) = fcat l ++ fbytes x
  | [], x => by simp [fcat]
  | y :: r, x => by simp only [List.cons_append, fcat]; rw [fcat_snoc r x, List.append_assoc]
theorem fends_snoc : ∀ (l : List Fr) (x : Fr) (k : Nat), fends k (l ++ [x]) = fends k l ++ [k + (fcat l).length + (x.body.length + 11)]
  | [], x, k => by simp [fends, fcat]
  | y :: r, x, k => by
    simp only [List.cons_append, fends, fcat, List.length_append, fbytes_length]
    rw [fends_snoc r x _]
    congr 3; omega
theorem fends_length : ∀ (l : List Fr) (k : Nat), (fends k l).length = l.length
  | [], _ => rfl
  | y :: r, k => by simp only [fends, List.length_cons]; rw [fends_length r]
theorem fends_le : ∀ (l : List Fr) (k : Nat), ∀ e ∈ fends k l, e ≤ k + (fcat l).length
  | [], _, e, h => absurd h (by simp [fends])
  | y :: r, k, e, h => by
    simp only [fends, List.mem_cons] at h
    simp only [fcat, List.length_append, fbytes_length]
    rcases h with rfl | h
    · omega
    · have := fends_le r _ e h; omega
theorem fcat_le : ∀ (l : List Fr), (∀ x ∈ l, x.body.length ≤ 400) → (fcat l).length ≤ 411 * l.length
  | [], _ => by simp [fcat]
  | y :: r, h => by
    have h1 := h y (by simp)
    have h2 := fcat_le r (fun x hx => h x (List.mem_cons_of_mem _ hx))
    simp only [fcat, List.length_append, fbytes_length, List.length_cons]; omega
theorem wholes_append (c : Nat) : ∀ (a b : List Nat) (s : Nat × Nat), wholes c (a ++ b) s = wholes c b (wholes c a s)
  | [], _, _ => rfl
  | e :: r, b, s => by simp only [List.cons_append, wholes]; rw [wholes_append c r b]
theorem wholes_le (c : Nat) : ∀ (a : List Nat) (s : Nat × Nat), (wholes c a s).1 ≤ s.1 + a.length
  | [], s => by simp [wholes]
  | e :: r, s => by
    simp only [wholes, List.length_cons]
    by_cases h : e ≤ c
    · rw [if_pos h]; have := wholes_le c r (s.1 + 1, e); simp only at this; omega
    · rw [if_neg h]; have := wholes_le c r s; omega
end Go.Tum.Crc

