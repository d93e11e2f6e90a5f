/- The disk, by lists and numbers: what each act does. -/
import Derived.Test.YtijpokajhjhllaaGreatDoorDskM
set_option linter.unusedSimpArgs false
set_option linter.unusedVariables false
namespace Go.Proofs.YtijpokajhjhllaaGreatDoor
open Go Go.RowKit Go.Tum Go.ChangeMaps

/-- A directory: names, the numbers of their files. -/
abbrev Dir := List (Nm × Nat)
structure Chg where
  frm : Nm
  to : Nm
  file : Option Nat
deriving DecidableEq
/-- The state of a disk: its room; of each file its bytes, and how many are sure; the directory at the last DirSync, and the changes since; the fuse; is the power gone? -/
structure PS where
  room : Nat
  files : List (List UInt8 × Nat)
  sure : Dir
  opn : List Chg
  fuse : Int
  down : Bool
def noN (d : Dir) (n : Nm) : Dir := d.filter fun p => p.1 != n
def inN (d : Dir) (n : Nm) (f : Nat) : Dir := (d.takeWhile fun z => decide (z.1 < n)) ++ (n, f) :: (d.dropWhile fun z => decide (z.1 < n))
def appC (d : Dir) (c : Chg) : Dir := match c.file with
  | some f => inN (noN (noN d c.frm) c.to) c.to f
  | none => noN d c.frm
def dirAt (s : Dir) (l : List Chg) : Dir := l.foldl appC s
def PS.dir (s : PS) : Dir := dirAt s.sure s.opn
def look (d : Dir) (n : Nm) : Option Nat := d.lookup n
def flen (fs : List (List UInt8 × Nat)) (f : Nat) : Nat := (fs.getD f ([], 0)).1.length
/-- The files that are counted. -/
def newOf (l : List Chg) : List Nat := l.filterMap fun c => if c.frm = [] then c.file else none
def cntd (s : PS) : List Nat := s.sure.map Prod.snd ++ newOf s.opn
def sumL (fs : List (List UInt8 × Nat)) (l : List Nat) : Nat := (l.map (flen fs)).sum
def held (s : PS) : Nat := sumL s.files (cntd s)
def nmOk (n : Nm) : Bool := decide (1 ≤ n.length) && decide (n.length ≤ 12) && n.all fun c => decide (97 ≤ c.toNat ∧ c.toNat ≤ 122 ∨ 48 ≤ c.toNat ∧ c.toNat ≤ 57 ∨ c.toNat = 46)

/-- An act: what is against it, what it does. -/
def doP (s : PS) (e : Nat) (act : PS → PS) : Nat × PS :=
  if s.down then (7, s) else if e ≠ 0 then (e, s) else if s.fuse = 0 then (7, { s with down := true }) else (0, act { s with fuse := if 0 < s.fuse then s.fuse - 1 else s.fuse })
def missP (s : PS) (n : Nm) : Nat := if look s.dir n = none then 5 else 0
def altP (c : Chg) (s : PS) : PS := { s with opn := s.opn ++ [c] }
def creE (s : PS) (n : Nm) : Nat := if nmOk n = false then 1 else if (look s.dir n).isSome then 6 else if 60 ≤ s.dir.length then 4 else 0
def creP (s : PS) (n : Nm) : Nat × PS := doP s (creE s n) fun s => { s with files := s.files ++ [([], 0)], opn := s.opn ++ [⟨[], n, some s.files.length⟩] }
def setF (fs : List (List UInt8 × Nat)) (f : Option Nat) (g : List UInt8 × Nat → List UInt8 × Nat) : List (List UInt8 × Nat) := match f with
  | some f => fs.modify f g
  | none => fs
def appE (s : PS) (n : Nm) (b : List UInt8) : Nat := if look s.dir n = none then 5 else if s.room < held s + b.length then 4 else 0
def appP (s : PS) (n : Nm) (b : List UInt8) : Nat × PS := doP s (appE s n b) fun s => { s with files := setF s.files (look s.dir n) fun x => (x.1 ++ b, x.2) }
def synP (s : PS) (n : Nm) : Nat × PS := doP s (missP s n) fun s => { s with files := setF s.files (look s.dir n) fun x => (x.1, x.1.length) }
def cutE (s : PS) (n : Nm) (k : Int) : Nat := match look s.dir n with
  | none => 5
  | some f => if k < 0 ∨ (flen s.files f : Int) < k then 1 else 0
def cutP (s : PS) (n : Nm) (k : Int) : Nat × PS := doP s (cutE s n k) fun s => { s with files := setF s.files (look s.dir n) fun x => (x.1.take k.toNat, min x.2 k.toNat) }
def renE (s : PS) (n m : Nm) : Nat := if look s.dir n = none then 5 else if nmOk m = false then 1 else 0
def renP (s : PS) (n m : Nm) : Nat × PS := doP s (renE s n m) fun s => { s with opn := s.opn ++ [⟨n, m, look s.dir n⟩] }
def delP (s : PS) (n : Nm) : Nat × PS := doP s (missP s n) fun s => { s with opn := s.opn ++ [⟨n, [], none⟩] }
def dsyP (s : PS) : Nat × PS := doP s 0 fun s => { s with sure := s.dir, opn := [] }
def fusP (s : PS) (n : Int) : PS := { s with fuse := max n (-1) }
def crF (t : Int) (x : List UInt8 × Nat) : List UInt8 × Nat :=
  let k := x.2 + (min (max t 0) ((x.1.length : Int) - x.2)).toNat
  (x.1.take k, k)
def crA : Dir → List Int → List (List UInt8 × Nat) → List (List UInt8 × Nat)
  | [], _, fs => fs
  | z :: r, ts, fs => crA r ts.tail (fs.modify z.2 (crF (ts.headD 0)))
def crP (s : PS) (k : Int) (ts : List Int) : PS :=
  let d := dirAt s.sure (s.opn.take k.toNat)
  { s with files := crA d ts s.files, sure := d, opn := [], fuse := -1, down := false }
def newP (room : Nat) : PS := ⟨room, [], [], [], -1, false⟩

/-! ### directories -/
abbrev Sorted (d : Dir) : Prop := d.Pairwise fun x y => x.1 < y.1
theorem nm_irrefl (x : Nm) : ¬ x < x := List.lt_irrefl x
theorem nm_trans {x y z : Nm} (h : x < y) (k : y < z) : x < z := List.lt_trans h k
theorem nm_total {x y : Nm} (h : ¬ x < y) (hn : x ≠ y) : y < x := by
  have h1 : y ≤ x := List.not_lt.1 h
  rcases List.le_iff_lt_or_eq.1 h1 with h2 | h2
  · exact h2
  · exact absurd h2.symm hn
theorem look_cons (a : Nm) (b : Nat) (r : Dir) (y : Nm) : look ((a, b) :: r) y = if y = a then some b else look r y := lk_cons a b r y
theorem look_noN (d : Dir) (x y : Nm) : look (noN d x) y = if y = x then none else look d y := lookup_filter d x y
theorem look_none {d : Dir} {x : Nm} : look d x = none ↔ x ∉ d.map Prod.fst := by
  induction d with
  | nil => simp [look]
  | cons p r ih =>
    obtain ⟨a, b⟩ := p
    rw [look_cons]
    by_cases h : x = a
    · subst h; simp
    · rw [if_neg h, ih]; simp [h]
theorem look_append (a b : Dir) (y : Nm) : look (a ++ b) y = (look a y).or (look b y) := by
  unfold look
  rw [List.lookup_append]
theorem tw_dw (d : Dir) (n : Nm) : (d.takeWhile fun z => decide (z.1 < n)) ++ (d.dropWhile fun z => decide (z.1 < n)) = d := List.takeWhile_append_dropWhile
theorem look_inN {d : Dir} {n : Nm} {f : Nat} (hn : look d n = none) (y : Nm) : look (inN d n f) y = if y = n then some f else look d y := by
  unfold inN
  have h0 := tw_dw d n
  conv => rhs; rw [← h0]
  rw [look_append, look_cons, look_append]
  by_cases h : y = n
  · subst h
    rw [if_pos rfl, if_pos rfl]
    have : look (d.takeWhile fun z => decide (z.1 < y)) y = none := by
      rw [look_none]
      intro hm
      rw [look_none] at hn
      exact hn (by rw [← h0, List.map_append]; exact List.mem_append_left _ hm)
    rw [this]; rfl
  · rw [if_neg h, if_neg h]
theorem noN_sorted {d : Dir} (h : Sorted d) (n : Nm) : Sorted (noN d n) := h.sublist List.filter_sublist
theorem noN_mem {d : Dir} {n : Nm} {z : Nm × Nat} : z ∈ noN d n ↔ z ∈ d ∧ z.1 ≠ n := by unfold noN; rw [List.mem_filter]; simp
theorem inN_mem {d : Dir} {n : Nm} {f : Nat} {z : Nm × Nat} : z ∈ inN d n f ↔ z = (n, f) ∨ z ∈ d := by
  unfold inN
  conv => rhs; rw [← tw_dw d n]
  simp only [List.mem_append, List.mem_cons]
  constructor
  · rintro (h | h | h)
    · exact .inr (.inl h)
    · exact .inl h
    · exact .inr (.inr h)
  · rintro (h | h | h)
    · exact .inr (.inl h)
    · exact .inl h
    · exact .inr (.inr h)
theorem inN_perm (d : Dir) (n : Nm) (f : Nat) : (inN d n f).Perm ((n, f) :: d) := by
  unfold inN
  refine List.perm_middle.trans ?_
  rw [tw_dw]
theorem inN_len (d : Dir) (n : Nm) (f : Nat) : (inN d n f).length = d.length + 1 := by rw [(inN_perm d n f).length_eq]; rfl
theorem inN_sorted {d : Dir} {n : Nm} {f : Nat} (h : Sorted d) (hn : look d n = none) : Sorted (inN d n f) := by
  induction d with
  | nil => simp [inN]
  | cons z r ih =>
    have h1 := List.pairwise_cons.1 h
    have hzn : n ≠ z.1 := by
      intro e
      rw [look_none] at hn
      exact hn (by simp [e])
    have hr : look r n = none := by
      obtain ⟨a, b⟩ := z
      rw [look_cons, if_neg hzn] at hn; exact hn
    by_cases hlt : z.1 < n
    · have e : inN (z :: r) n f = z :: inN r n f := by simp [inN, List.takeWhile_cons, List.dropWhile_cons, hlt]
      rw [e, Sorted, List.pairwise_cons]
      refine ⟨fun q hq => ?_, ih h1.2 hr⟩
      rcases inN_mem.1 hq with rfl | hq
      · exact hlt
      · exact h1.1 q hq
    · have e : inN (z :: r) n f = (n, f) :: z :: r := by simp [inN, List.takeWhile_cons, List.dropWhile_cons, hlt]
      rw [e, Sorted, List.pairwise_cons]
      refine ⟨fun q hq => ?_, h⟩
      have hnz := nm_total hlt (Ne.symm hzn)
      rcases List.mem_cons.1 hq with rfl | hq
      · exact hnz
      · exact nm_trans hnz (h1.1 q hq)
theorem noN_len {d : Dir} (h : Sorted d) {n : Nm} (hn : (look d n).isSome = true) : (noN d n).length + 1 = d.length := by
  induction d with
  | nil => simp [look] at hn
  | cons z r ih =>
    have h1 := List.pairwise_cons.1 h
    obtain ⟨a, b⟩ := z
    by_cases hz : a = n
    · subst hz
      have : noN ((a, b) :: r) a = r := by
        unfold noN
        rw [List.filter_cons]
        simp only [bne_self_eq_false, Bool.false_eq_true, if_false]
        refine List.filter_eq_self.2 fun q hq => ?_
        have h2 := h1.1 q hq
        have : q.1 ≠ a := fun e => by rw [e] at h2; exact nm_irrefl _ h2
        simpa using this
      rw [this]; rfl
    · have e : noN ((a, b) :: r) n = (a, b) :: noN r n := by
        unfold noN
        rw [List.filter_cons]
        simp [hz]
      rw [look_cons, if_neg (Ne.symm hz)] at hn
      rw [e]
      have := ih h1.2 hn
      simp; omega
theorem noN_same {d : Dir} {n : Nm} (hn : look d n = none) : noN d n = d := by
  refine List.filter_eq_self.2 fun z hz => ?_
  rw [look_none] at hn
  have : z.1 ≠ n := fun e => hn (by rw [← e]; exact List.mem_map_of_mem (f := Prod.fst) hz)
  simpa using this
theorem look_mem {d : Dir} {n : Nm} {f : Nat} (h : look d n = some f) : (n, f) ∈ d := by
  induction d with
  | nil => simp [look] at h
  | cons z r ih =>
    obtain ⟨a, b⟩ := z
    rw [look_cons] at h
    by_cases e : n = a
    · rw [if_pos e] at h; cases h; rw [e]; simp
    · rw [if_neg e] at h; exact List.mem_cons_of_mem _ (ih h)
end Go.Proofs.YtijpokajhjhllaaGreatDoor
