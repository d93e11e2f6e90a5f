/- Records one behind the other, cut: the plain mathematics; rows of records as arguments.
The frame's reading of an argument that is a record. -/
import Derived.Test.YtijpokajhjhllaaGreatDoorRecMA
import Derived.Test.YtijpokajhjhllaaGreatDoorOpen
import Derived.Lib.SmallJoins
import Derived.Test.YtijpokajhjhllaaGreatDoorRecM
import Derived.Test.YtijpokajhjhllaaGreatDoorFrmT
set_option maxRecDepth 100000
namespace Go.Proofs.YtijpokajhjhllaaGreatDoor
open Go.RowKit Go.Tum Go.Tum.Crc Go.ChangeShapes Go.WideShapes Go.ChangeAt

section
variable {H : Type} {enc : TypeId × Value → H} {w : World} {base : Nat} {held : Bool}
theorem open_rec {v : Value} {d : DataW H} {p : List MemPlace} {r : Reach} {b0 : Nat} (hval : Value.okWide Tryz.prog w r b0 77 v) (h : DataW.Trod enc Tryz.prog w base (fun _ => true) held 77 v d p) :
    ∃ (x : Rc) (u : Value), v = rv x u ∧ Vec uv w u x.n := by
  obtain ⟨x0, x1, x2, y0, y1, y2, n, rfl, -, -, h0, h1, h2⟩ := Joins.open_agg3 Tryz.underlying77 (by kernel_rfl) (by kernel_rfl) hval h
  obtain ⟨a, e, -, -⟩ := DataW.trod_int Tryz.underlying3 h0
  simp at e; subst e
  obtain ⟨s, e, -, -⟩ := DataW.trod_string Tryz.underlying9 h2
  simp at e; subst e
  have hs : str s.data.toList = s := by
    apply ByteArray.ext
    simp [str]
  obtain ⟨l, hl⟩ : ∃ l : List UInt64, Vec uv w x1 l := by
    rcases open_ints Tryz.underlying75 Tryz.underlying31 (by kernel_rfl) h1 with ⟨h0, _⟩ | ⟨a, len, cap, zs, hcs, hb, hl, hm, hz, hx, hcell, hw⟩
    · simp at h0; subst h0
      exact vec_of_row_u64 (.inl ⟨rfl, rfl, rfl, rfl⟩)
    · simp at hcs; subst hcs
      exact vec_of_row_u64 (.inr ⟨a, rfl, hl, hm, by simpa using hz, hcell, hw⟩)
  refine ⟨⟨a, l, s.data.toList⟩, x1, ?_, hl⟩
  show _ = Value.agg #[.int .i64 a, x1, .string (str s.data.toList)]
  rw [hs]
end

/-- What the row's list gives: the table. -/
def tabZr : List Int := [0, 0, 5, 2, 1, 2, 2, 1, 1, 1, 1, 1, 5, 7, 10, 2, 1, 1]
theorem tabZr_at : ∀ i : Fin 18, tabZr.getD i.val 0 = ((manyT.getD i.val 0 : Nat) : Int) := by decide
end Go.Proofs.YtijpokajhjhllaaGreatDoor

set_option maxRecDepth 100000
namespace Go.Tum.Crc
open Go.Tum Go.Tum.Vint

theorem recs_map : ∀ (l : List Rc) (k : Nat) (e : Int), (∀ x ∈ l, rightB x = true) → recs k (l.map recFr) e = (l, fends k (l.map recFr), e)
  | [], _, _, _ => rfl
  | x :: r, k, e, h => by
    have hx := recRead_fr (h x (by simp))
    have ih := recs_map r (k + ((recFr x).body.length + 11)) e fun y hy => h y (List.mem_cons_of_mem _ hy)
    simp only [List.map_cons, recs, fends, hx, ih]
    simp
theorem fall_end (b : List UInt8) : (fall b).2.1 = (fcat (fall b).1).length := by
  induction b using fall_ind with
  | h b ih =>
    by_cases hb : b = []
    · subst hb; simp [fall_nil, fcat]
    · by_cases he : (fread b).2.2 = 0
      · rw [fall_ok hb he]
        have h2 := ih hb he
        rw [fread_size b he] at h2
        simp only [fcat, List.length_append, fbytes_length, fread_size b he, h2]
      · rw [fall_err hb he]; simp [fcat]
theorem fends_at : ∀ (l : List Fr) (k i : Nat) (h : i < (fends k l).length), (fends k l)[i] = k + (fcat (l.take (i + 1))).length
  | [], k, i, h => absurd h (by simp [fends])
  | x :: r, k, 0, h => by simp [fends, fcat, fbytes_length]
  | x :: r, k, i + 1, h => by
    simp only [fends, List.getElem_cons_succ, List.take_succ_cons, fcat, List.length_append, fbytes_length]
    rw [fends_at r _ i (by simpa [fends] using h)]
    omega
/-- How many of the lengths are no more than a cut. -/
def wcount (cut : Int) : List Nat → Nat
  | [] => 0
  | e :: r => (if (e : Int) ≤ cut then 1 else 0) + wcount cut r
theorem wcount_snoc (cut : Int) : ∀ (l : List Nat) (e : Nat), wcount cut (l ++ [e]) = wcount cut l + (if (e : Int) ≤ cut then 1 else 0)
  | [], e => by simp [wcount]
  | x :: r, e => by simp only [List.cons_append, wcount, wcount_snoc cut r e]; omega
theorem wcount_wholes (cut : Int) (c : Nat) : ∀ (l : List Nat) (s : Nat × Nat), (∀ e ∈ l, ((e : Int) ≤ cut ↔ e ≤ c)) → (wholes c l s).1 = s.1 + wcount cut l
  | [], s, _ => by simp [wholes, wcount]
  | e :: r, s, h => by
    have he := h e (by simp)
    have hr := fun s => wcount_wholes cut c r s fun y hy => h y (List.mem_cons_of_mem _ hy)
    simp only [wholes, wcount]
    rw [hr]
    by_cases h1 : e ≤ c
    · rw [if_pos h1, if_pos (he.2 h1)]; simp only; omega
    · rw [if_neg h1, if_neg (fun h2 => h1 (he.1 h2))]; omega
theorem wcount_le (cut : Int) : ∀ (l : List Nat), wcount cut l ≤ l.length
  | [] => by simp [wcount]
  | e :: r => by
    have := wcount_le cut r
    simp only [wcount, List.length_cons]
    split <;> omega
theorem fends_pos : ∀ (l : List Fr) (k : Nat), ∀ e ∈ fends k l, 11 ≤ e
  | [], _, e, h => absurd h (by simp [fends])
  | y :: r, k, e, h => by
    simp only [fends, List.mem_cons] at h
    rcases h with rfl | h
    · omega
    · exact fends_pos r _ e h
/-- What the law says of records that may be, cut. -/
theorem rall_torn (l : List Rc) (hl : ∀ x ∈ l, rightB x = true) (cut : Int) (c : Nat) (B : List UInt8) (hB : fcat (l.map recFr) = B)
    (hc : c = (min (max cut 0) (B.length : Int)).toNat) :
    ∃ n at_ e, n ≤ l.length ∧ wcount cut (fends 0 (l.map recFr)) = n ∧ rall 0 (B.take c) = (l.take n, fends 0 ((l.take n).map recFr), e) ∧ at_ ≤ c ∧ (fcat ((l.take n).map recFr)).length = at_ ∧
      (e = 0 ∨ e = 3) ∧ (e = 0 ↔ at_ = c) ∧ c ≤ B.length := by
  subst hB
  generalize hL : l.map recFr = L at *
  have hLb : ∀ x ∈ L, x.body.length ≤ 400 := by
    intro x hx
    rw [← hL] at hx
    obtain ⟨y, hy, rfl⟩ := List.mem_map.1 hx
    exact body_le (hl y hy)
  have hcl : c ≤ (fcat L).length := by omega
  have ht := fall_torn L c hLb hcl 0 0
  have hlen : (fends 0 L).length = L.length := fends_length L 0
  obtain ⟨F1, F2, F3, hF⟩ : ∃ F1 F2 F3, fall ((fcat L).take c) = (F1, F2, F3) := ⟨_, _, _, rfl⟩
  have hfe := fall_end ((fcat L).take c)
  have hfl := fall_le ((fcat L).take c)
  have hra := recs_fall ((fcat L).take c) 0
  rw [hF] at ht hfe hfl hra
  simp only [Nat.zero_add] at ht hfe hfl hra
  obtain ⟨h1, h2, h3, h4⟩ := ht
  have hw := wcount_wholes cut c (fends 0 L) (0, 0) (by
    intro e he
    have := fends_pos L 0 e he
    have := fends_le L 0 e he
    omega)
  rw [h1] at hw
  simp only [Nat.zero_add] at hw
  have hle : F1.length ≤ L.length := by have := wcount_le cut (fends 0 L); omega
  have hll : L.length = l.length := by rw [← hL]; simp
  have hF1 : F1 = (l.take F1.length).map recFr := by
    rw [List.map_take, hL]; exact h2
  have hr2 : recs 0 F1 F3 = (l.take F1.length, fends 0 F1, F3) := by
    have := recs_map (l.take F1.length) 0 F3 fun x hx => hl x (List.mem_of_mem_take hx)
    rwa [← hF1] at this
  rw [hr2] at hra
  have h5 := hfl.2.2
  refine ⟨F1.length, F2, F3, by omega, hw.symm, ?_, h3, ?_, ?_, ?_, hcl⟩
  · rw [← hra, ← hF1]
  · rw [← hF1]; exact hfe.symm
  · rcases Nat.lt_or_ge F2 c with h | h
    · exact .inr (h4 h)
    · left; rw [h5]; simp; omega
  · rw [h5]; simp; omega
end Go.Tum.Crc
namespace Go.Proofs.YtijpokajhjhllaaGreatDoor
open Go Go.RowKit Go.Tum Go.Tum.Crc Go.WideShapes Go.ChangeShapes

theorem ofNat_toNatList (s : ByteArray) : str s.data.toList = s := by
  apply ByteArray.ext
  simp [str]
section
variable {H : Type} {enc : TypeId × Value → H} {w : World} {base : Nat} {held : Bool}
theorem open_recs {v : Value} {d : DataW H} {p : List MemPlace} {r : Reach} {b0 : Nat} (hval : Value.okWide Tryz.prog w r b0 85 v) (h : DataW.Trod enc Tryz.prog w base (fun _ => true) held 85 v d p) :
    ∃ l : List Rc, Rcs w v l := by
  obtain ⟨a, len, cap, rfl⟩ := okWide_slice Tryz.underlying85 hval
  obtain ⟨fuel, hf⟩ := h
  replace hf : DataW.trod enc Tryz.prog w base (fun _ => true) held fuel 85 [.slice a len cap] = some (d, p) := hf
  rcases open_slice_fields Tryz.underlying85 Tryz.underlying77 (by kernel_rfl) (by kernel_rfl) hf with ⟨h0, _⟩ | ⟨a, len, cap, m, D, Pl, hcs, hb, hl, hm, hmm, hx, hi⟩
  · simp at h0
    obtain ⟨rfl, rfl, rfl⟩ := h0
    exact ⟨[], [], rfl, RowsOf.nil _ _ _, fun p hp => absurd hp (by simp)⟩
  · simp at hcs
    obtain ⟨rfl, rfl, rfl⟩ := hcs
    simp at hmm
    subst hmm
    have hrow : ∀ i, i < len → ∃ q : Rc × Value, Vec uv w q.2 q.1.n ∧ ∀ j u, (rcells q)[j]? = some u → w.cell? (a.add (i * 3 + j)) = some u := by
      intro i hil
      obtain ⟨ys, n, -, -, -, hfj⟩ := hi i (by omega)
      obtain ⟨u0, y0, k0, -, t0⟩ := hfj 0 _ rfl
      obtain ⟨u1, y1, k1, -, t1⟩ := hfj 1 _ rfl
      obtain ⟨u2, y2, k2, -, t2⟩ := hfj 2 _ rfl
      obtain ⟨z, e, -, hw⟩ := DataW.trod_int Tryz.underlying3 t0
      simp at e; subst e
      obtain ⟨l, hl⟩ : ∃ l : List UInt64, Vec uv w u1 l := by
        rcases open_ints Tryz.underlying75 Tryz.underlying31 (by kernel_rfl) t1 with ⟨h0, _⟩ | ⟨a, len, cap, zs, hcs, hb, hl, hm, hz, hx, hcell, hw⟩
        · simp at h0; subst h0
          exact vec_of_row_u64 (.inl ⟨rfl, rfl, rfl, rfl⟩)
        · simp at hcs; subst hcs
          exact vec_of_row_u64 (.inr ⟨a, rfl, hl, hm, by simpa using hz, hcell, hw⟩)
      obtain ⟨s, e, -, -⟩ := DataW.trod_string Tryz.underlying9 t2
      simp at e; subst e
      refine ⟨(⟨z, l, s.data.toList⟩, u1), hl, fun j u hu => ?_⟩
      match j, hu with
      | 0, hu => simp at hu; subst hu; exact k0
      | 1, hu => simp at hu; subst hu; exact k1
      | 2, hu => simp [ofNat_toNatList] at hu; subst hu; exact k2
    obtain ⟨q, hq, hQ⟩ := list_of len hrow
    refine ⟨q.map (·.1), q, rfl, RowsOf.mk' hq hl hm (by decide) (fun _ _ => rfl) (fun i h j u hu => (hQ i h).2 j u hu), ?_⟩
    intro p hp
    obtain ⟨i, hil, rfl⟩ := List.mem_iff_getElem.1 hp
    exact (hQ i hil).1
end
end Go.Proofs.YtijpokajhjhllaaGreatDoor

