/- The document's heap: its mathematics. -/
import Derived.Test.YtkagacopgjcdnaaDueL
set_option linter.unusedSimpArgs false
set_option linter.unusedVariables false
namespace Go.Proofs.Ytkagacopgjcdnaa
open Go Go.RowKit Go.Tum Go.ChangeMaps Go.Tum.Hp

abbrev Ent := UInt64 × UInt64
def kz (z : Ent) : Int := (z.2.toNat : Int) * 18446744073709551616 + (z.1.toNat : Int)
/-- z stands ahead of the entry (x, a). -/
def lesz (z y : Ent) : Bool := decide (kz z < kz y)
def lkE (L : List Ent) (x : UInt64) : Option Int := (L.find? fun z => z.1 == x).map fun z => (z.2.toNat : Int)
/-- An id's place; -1: it isn't there. -/
def fdE : List Ent → UInt64 → Nat → Int
  | [], _, _ => -1
  | z :: r, x, k => if z.1 = x then (k : Int) else fdE r x (k + 1)
theorem fdE_of : ∀ {L : List Ent} {x : UInt64} {b k : Nat} (hk : k < L.length), (∀ j (h : j < k), (L[j]'(by omega)).1 ≠ x) → L[k].1 = x → fdE L x b = ((b + k : Nat) : Int)
  | [], x, b, k, hk, _, _ => absurd hk (by simp)
  | z :: r, x, b, 0, hk, hn, he => by
    have : z.1 = x := by simpa using he
    simp [fdE, this]
  | z :: r, x, b, k + 1, hk, hn, he => by
    have h0 : z.1 ≠ x := by simpa using hn 0 (by omega)
    simp only [fdE, if_neg h0]
    have := fdE_of (L := r) (x := x) (b := b + 1) (k := k) (by simpa using hk) (fun j h => by simpa using hn (j + 1) (by omega)) (by simpa using he)
    rw [this]; congr 1; omega
theorem fdE_none : ∀ {L : List Ent} {x : UInt64} {b : Nat}, (∀ z ∈ L, z.1 ≠ x) → fdE L x b = -1
  | [], _, _, _ => rfl
  | z :: r, x, b, h => by
    simp only [fdE, if_neg (h z (by simp))]
    exact fdE_none fun y hy => h y (List.mem_cons_of_mem _ hy)
/-- Where an entry comes to stand. -/
def plE (L : List Ent) (y : Ent) : Nat := (L.takeWhile fun z => lesz z y).length
def insE (L : List Ent) (y : Ent) : List Ent := (L.takeWhile fun z => lesz z y) ++ y :: (L.dropWhile fun z => lesz z y)
theorem take_plE (L : List Ent) (y : Ent) : L.take (plE L y) = L.takeWhile fun z => lesz z y := by
  exact (List.prefix_iff_eq_take.1 (List.takeWhile_prefix _)).symm
theorem drop_plE (L : List Ent) (y : Ent) : L.drop (plE L y) = L.dropWhile fun z => lesz z y := by
  have h1 : L.take (plE L y) ++ L.drop (plE L y) = L := List.take_append_drop _ _
  have h2 : (L.takeWhile fun z => lesz z y) ++ (L.dropWhile fun z => lesz z y) = L := List.takeWhile_append_dropWhile
  rw [take_plE] at h1
  exact List.append_cancel_left (h1.trans h2.symm)
theorem plE_le (L : List Ent) (y : Ent) : plE L y ≤ L.length := (List.takeWhile_prefix _).length_le
/-- Walked up to there. -/
theorem plE_of {L : List Ent} {y : Ent} {k : Nat} (hk : k ≤ L.length) (h1 : ∀ j (h : j < k), lesz (L[j]'(by omega)) y = true) (h2 : ∀ h : k < L.length, lesz L[k] y = false) : plE L y = k := by
  unfold plE
  induction L generalizing k with
  | nil => simp at hk; subst hk; rfl
  | cons z r ih =>
    cases k with
    | zero =>
      have := h2 (by simp)
      simp at this
      simp [List.takeWhile_cons, this]
    | succ k =>
      have h0 := h1 0 (by omega)
      simp at h0
      rw [List.takeWhile_cons, if_pos h0, List.length_cons]
      rw [ih (k := k) (by simpa using hk) (fun j h => by simpa using h1 (j + 1) (by omega)) (fun h => by have := h2 (by simpa using h); rwa [List.getElem_cons_succ] at this)]
/-- The heap's times are the list's. -/
structure Mt (At : UInt64 → Option Int) (L : List Ent) : Prop where
  so : L.Pairwise fun x y => kz x < kz y
  nd : (L.map Prod.fst).Nodup
  at_ : ∀ x, At x = lkE L x
theorem mt_nil : Mt (fun _ => none) [] := ⟨List.Pairwise.nil, by simp, fun x => rfl⟩
theorem lkE_some {L : List Ent} {x : UInt64} : (lkE L x).isSome = decide (x ∈ L.map Prod.fst) := by
  unfold lkE
  rw [Option.isSome_map, Bool.eq_iff_iff, List.find?_isSome]
  simp
theorem lkE_mem {L : List Ent} (hn : (L.map Prod.fst).Nodup) {x a : UInt64} : (x, a) ∈ L → lkE L x = some (a.toNat : Int) := by
  intro h
  induction L with
  | nil => simp at h
  | cons z r ih =>
    rw [List.map_cons, List.nodup_cons] at hn
    unfold lkE
    rw [List.find?_cons]
    rcases List.mem_cons.1 h with rfl | h
    · simp
    · have : z.1 ≠ x := fun e => hn.1 (by rw [e]; exact List.mem_map_of_mem (f := Prod.fst) h)
      simp only [show (z.1 == x) = false by simpa using this]
      exact ih hn.2 h
theorem lkE_ex {L : List Ent} {x : UInt64} {t : Int} (h : lkE L x = some t) : ∃ a : UInt64, t = (a.toNat : Int) ∧ (x, a) ∈ L := by
  unfold lkE at h
  cases hf : L.find? fun z => z.1 == x with
  | none => rw [hf] at h; simp at h
  | some z =>
    rw [hf] at h
    simp at h
    have h1 := List.find?_some hf
    have h2 := List.mem_of_find?_eq_some hf
    simp at h1
    exact ⟨z.2, h.symm, by rw [← h1]; exact h2⟩
theorem lkE_none {L : List Ent} {x : UInt64} (h : x ∉ L.map Prod.fst) : lkE L x = none := by
  cases hl : lkE L x with
  | none => rfl
  | some t =>
    obtain ⟨a, -, hm⟩ := lkE_ex hl
    exact absurd (List.mem_map_of_mem (f := Prod.fst) hm) h
theorem lkE_congr {L M : List Ent} (hl : (L.map Prod.fst).Nodup) (hm : (M.map Prod.fst).Nodup) {x : UInt64} (h : ∀ a, (x, a) ∈ L ↔ (x, a) ∈ M) : lkE L x = lkE M x := by
  cases h1 : lkE L x with
  | some t =>
    obtain ⟨a, rfl, hm1⟩ := lkE_ex h1
    rw [lkE_mem hm ((h a).1 hm1)]
  | none =>
    cases h2 : lkE M x with
    | none => rfl
    | some t =>
      obtain ⟨a, rfl, hm2⟩ := lkE_ex h2
      rw [lkE_mem hl ((h a).2 hm2)] at h1; cases h1
theorem insE_mem {L : List Ent} {y z : Ent} : z ∈ insE L y ↔ z = y ∨ z ∈ L := by
  unfold insE
  conv => rhs; rw [← List.takeWhile_append_dropWhile (p := fun z => lesz z y) (l := L)]
  simp only [List.mem_append, List.mem_cons]
  constructor
  · rintro (h | h | h)
    · exact .inr (.inl h)
    · exact .inl h
    · exact .inr (.inr h)
  · rintro (h | h | h)
    · exact .inr (.inl h)
    · exact .inl h
    · exact .inr (.inr h)
theorem insE_perm (L : List Ent) (y : Ent) : (insE L y).Perm (y :: L) := by
  unfold insE
  refine List.perm_middle.trans ?_
  rw [List.takeWhile_append_dropWhile]
theorem insE_len (L : List Ent) (y : Ent) : (insE L y).length = L.length + 1 := by rw [(insE_perm L y).length_eq]; rfl
theorem kz_inj {x y : Ent} (h : kz x = kz y) : x = y := by
  unfold kz at h
  have h1 := x.1.toNat_lt
  have h2 := y.1.toNat_lt
  have e1 : x.1 = y.1 := UInt64.toNat_inj.1 (by omega)
  have e2 : x.2 = y.2 := UInt64.toNat_inj.1 (by omega)
  exact Prod.ext e1 e2
theorem insE_sorted {L : List Ent} {y : Ent} (hs : L.Pairwise fun x y => kz x < kz y) (hy : y ∉ L) : (insE L y).Pairwise fun x y => kz x < kz y := by
  induction L with
  | nil => simp [insE]
  | cons z r ih =>
    rw [List.pairwise_cons] at hs
    have hz : y ≠ z := fun e => hy (by simp [e])
    by_cases hlt : lesz z y = true
    · have e : insE (z :: r) y = z :: insE r y := by simp [insE, List.takeWhile_cons, List.dropWhile_cons, hlt]
      rw [e, List.pairwise_cons]
      refine ⟨fun q hq => ?_, ih hs.2 (fun h => hy (by simp [h]))⟩
      rcases insE_mem.1 hq with rfl | hq
      · simpa [lesz] using hlt
      · exact hs.1 q hq
    · have e : insE (z :: r) y = y :: z :: r := by simp [insE, List.takeWhile_cons, List.dropWhile_cons, hlt]
      rw [e, List.pairwise_cons, List.pairwise_cons]
      have hyz : kz y < kz z := by
        have : ¬ kz z < kz y := by simpa [lesz] using hlt
        rcases Int.lt_or_eq_of_le (Int.not_lt.1 this) with h | h
        · exact h
        · exact absurd (kz_inj h) hz
      refine ⟨fun q hq => ?_, hs⟩
      rcases List.mem_cons.1 hq with rfl | hq
      · exact hyz
      · exact Int.lt_trans hyz (hs.1 q hq)
theorem mt_has {At : UInt64 → Option Int} {L : List Ent} (h : Mt At L) (x : UInt64) : (At x).isSome = decide (x ∈ L.map Prod.fst) := by
  rw [h.at_ x]; exact lkE_some
theorem mt_put {At : UInt64 → Option Int} {L : List Ent} (h : Mt At L) {x a : UInt64} (hx : x ∉ L.map Prod.fst) : Mt (setF At x (a.toNat : Int)) (insE L (x, a)) := by
  have hn : ((insE L (x, a)).map Prod.fst).Nodup := by
    rw [((insE_perm L (x, a)).map Prod.fst).nodup_iff, List.map_cons, List.nodup_cons]
    exact ⟨hx, h.nd⟩
  refine ⟨insE_sorted h.so fun hm => hx (List.mem_map_of_mem (f := Prod.fst) hm), hn, fun y => ?_⟩
  unfold setF
  by_cases hy : y = x
  · rw [if_pos hy, hy, lkE_mem hn (insE_mem.2 (.inl rfl))]
  · rw [if_neg hy, h.at_ y]
    refine lkE_congr h.nd hn fun b => ?_
    rw [insE_mem]
    constructor
    · intro hm; exact .inr hm
    · rintro (e | hm)
      · exact absurd (congrArg Prod.fst e) hy
      · exact hm
def delE (L : List Ent) (x : UInt64) : List Ent := L.filter fun z => z.1 != x
theorem mt_del {At : UInt64 → Option Int} {L : List Ent} (h : Mt At L) (x : UInt64) : Mt (delF At x) (delE L x) := by
  have hsub : (delE L x).Sublist L := List.filter_sublist
  have hn : ((delE L x).map Prod.fst).Nodup := (hsub.map Prod.fst).nodup h.nd
  refine ⟨h.so.sublist hsub, hn, fun y => ?_⟩
  unfold delF
  by_cases hy : y = x
  · rw [if_pos hy, hy, lkE_none]
    intro hm
    obtain ⟨z, hz, e⟩ := List.mem_map.1 hm
    have := (List.mem_filter.1 hz).2
    simp [e] at this
  · rw [if_neg hy, h.at_ y]
    refine lkE_congr h.nd hn fun b => ?_
    unfold delE
    rw [List.mem_filter]
    simp [hy]
/-- Taken out at its place. -/
theorem delE_at {L : List Ent} (hn : (L.map Prod.fst).Nodup) {k : Nat} (hk : k < L.length) {x : UInt64} (e : L[k].1 = x) : L.take k ++ L.drop (k + 1) = delE L x := by
  unfold delE
  have hL : L = L.take k ++ L[k] :: L.drop (k + 1) := by rw [List.getElem_cons_drop, List.take_append_drop]
  have hn2 : (L.take k).map Prod.fst ++ (L[k].1 :: (L.drop (k + 1)).map Prod.fst) = L.map Prod.fst := by
    conv => rhs; rw [hL]
    rw [List.map_append, List.map_cons]
  rw [← hn2] at hn
  have hd := List.nodup_append.1 hn
  conv => rhs; rw [hL]
  rw [List.filter_append, List.filter_cons]
  rw [show (L[k].1 != x) = false by simp [e]]
  simp only [Bool.false_eq_true, if_false]
  congr 1
  · refine (List.filter_eq_self.2 fun z hz => ?_).symm
    have := hd.2.2 z.1 (List.mem_map_of_mem (f := Prod.fst) hz) L[k].1 (by simp)
    rw [e] at this; simpa using this
  · refine (List.filter_eq_self.2 fun z hz => ?_).symm
    have h1 := (List.nodup_cons.1 hd.2.1).1
    have : z.1 ≠ L[k].1 := fun e2 => h1 (by rw [← e2]; exact List.mem_map_of_mem (f := Prod.fst) hz)
    rw [e] at this; simpa using this
theorem delE_not {L : List Ent} {x : UInt64} (h : x ∉ L.map Prod.fst) : delE L x = L := by
  refine List.filter_eq_self.2 fun z hz => ?_
  have : z.1 ≠ x := fun e => h (by rw [← e]; exact List.mem_map_of_mem (f := Prod.fst) hz)
  simpa using this
/-- What the document's heap tells first. -/
def fstE (L : List Ent) : Value :=
  match L with
  | [] => .tuple #[.int .u64 0, .int .u64 0, .bool false]
  | z :: _ => .tuple #[vU z.1, vU z.2, .bool true]
theorem mt_row {B : Nat} {w : World} {p mt mp : Nat} {At : UInt64 → Option Int} {row : List UInt64} {v : Value} {L : List Ent} (h : HB B w p mt mp At row v) (k : Mt At L) (x : UInt64) : x ∈ row ↔ x ∈ L.map Prod.fst := by
  have h1 := h.has x
  rw [mt_has k x] at h1
  simpa using h1.symm
theorem mt_len {B : Nat} {w : World} {p mt mp : Nat} {At : UInt64 → Option Int} {row : List UInt64} {v : Value} {L : List Ent} (h : HB B w p mt mp At row v) (k : Mt At L) : row.length = L.length := by
  have := ((List.perm_ext_iff_of_nodup h.tr.nd k.nd).2 fun x => mt_row h k x).length_eq
  simpa using this
theorem tim_lk {At : UInt64 → Option Int} {L : List Ent} (k : Mt At L) {z : Ent} (hz : z ∈ L) : tim At z.1 = (z.2.toNat : Int) := by
  unfold tim
  rw [k.at_ z.1, lkE_mem k.nd (a := z.2) hz]; rfl
theorem key_kz {At : UInt64 → Option Int} {L : List Ent} (k : Mt At L) {z : Ent} (hz : z ∈ L) : keyI At z.1 = kz z := by
  unfold keyI kz
  rw [tim_lk k hz]
theorem mt_first {B : Nat} {w : World} {p mt mp : Nat} {At : UInt64 → Option Int} {row : List UInt64} {v : Value} {L : List Ent} (h : HB B w p mt mp At row v) (k : Mt At L) : fst At row = fstE L := by
  have hlen := mt_len h k
  cases row with
  | nil =>
    obtain rfl : L = [] := List.length_eq_zero_iff.1 (by simpa using hlen.symm)
    rfl
  | cons x r =>
    cases L with
    | nil => simp at hlen
    | cons z L =>
      obtain ⟨y, hy, hyx⟩ := List.mem_map.1 ((mt_row h k x).1 (by simp))
      have hle := h.least z.1 ((mt_row h k z.1).2 (by simp))
      rw [key_kz k (z := z) (by simp), ← hyx, key_kz k hy] at hle
      have hyz : y = z := by
        rcases List.mem_cons.1 hy with e | hm
        · exact e
        · have := (List.pairwise_cons.1 k.so).1 y hm
          omega
      subst hyz
      unfold fst fstE
      simp only
      rw [← hyx, tim_lk k hy]
/-- An id's time. -/
def atE (L : List Ent) (x : UInt64) : Value := .tuple #[.int .u64 ((lkE L x).getD 0), .bool (lkE L x).isSome]
theorem mt_atV {At : UInt64 → Option Int} {L : List Ent} (k : Mt At L) (x : UInt64) : atV At x = atE L x := by
  unfold atV atE tim
  rw [k.at_ x]
theorem lkE_at {L : List Ent} {x : UInt64} {k : Nat} (hk : k < L.length) (hn : ∀ j (h : j < k), (L[j]'(by omega)).1 ≠ x) (he : L[k].1 = x) : lkE L x = some (L[k].2.toNat : Int) := by
  unfold lkE
  induction L generalizing k with
  | nil => simp at hk
  | cons z r ih =>
    rw [List.find?_cons]
    cases k with
    | zero =>
      simp at he
      simp [he]
    | succ k =>
      have h0 : z.1 ≠ x := by simpa using hn 0 (by omega)
      simp only [show (z.1 == x) = false by simpa using h0]
      have := ih (k := k) (by simpa using hk) (fun j h => by simpa using hn (j + 1) (by omega)) (by simpa using he)
      simpa using this
end Go.Proofs.Ytkagacopgjcdnaa
