/- DueDoes: both heaps' acts, by what the document's heap has. -/
import Derived.Test.YtkagacopgjcdnaaDueS
set_option linter.unusedSimpArgs false
set_option linter.unusedVariables false
namespace Go.Proofs.Ytkagacopgjcdnaa
open Go Go.RowKit Go.Tum Go.ChangeMaps Go.Tum.Hp
open Go.ParB (upd Lof)
open Go.ParE (putS slotsR slots Closed)

theorem RH.keep {b : Nat} {w w' : World} {r : Nat} {E : List Ent} {S : List Nat} (h : RH b w r E) (f : Fr S w w') (hr : r ∉ S) (hs : ∀ q ∈ S, ∃ o, w.heap[q]? = some o ∧ ∀ cs, o ≠ .cells cs 54 (0, 0)) : RH b w' r E := by
  have hl := h.lt
  obtain ⟨v, h, o⟩ := h
  exact ⟨v, (f.block r hl hr).trans h, ownsRow_fr o f hs⟩
theorem HB.blocks {B : Nat} {w : World} {p mt mp : Nat} {At : UInt64 → Option Int} {row : List UInt64} {v : Value} (h : HB B w p mt mp At row v) : ∀ q ∈ Hb p mt mp v, ∃ o, w.heap[q]? = some o ∧ (∀ cs, o ≠ .cells cs 54 (0, 0)) ∧ (∀ cs, o ≠ .cells cs 30 (0, 0)) := by
  obtain ⟨e1, c1, h1⟩ := h.tr.ti.block
  obtain ⟨e2, c2, h2⟩ := h.tr.pl.block
  intro q hm
  simp only [Hb, List.mem_cons] at hm
  rcases hm with rfl | rfl | rfl | hm
  · exact ⟨_, h.tr.hd, by intro cs e; simp at e, by intro cs e; simp at e⟩
  · exact ⟨_, h1, (by intro cs e; cases e), (by intro cs e; cases e)⟩
  · exact ⟨_, h2, (by intro cs e; cases e), (by intro cs e; cases e)⟩
  · rcases h.tr.ow.2 with ⟨e, _⟩ | ⟨g, cap, cur, hv, _, hgg, _⟩
    · rw [e] at hm; simp [Value.ownBlock] at hm
    · rw [hv] at hm
      simp [Value.ownBlock] at hm
      subst hm
      exact ⟨_, hgg, by intro cs e; simp at e, by intro cs e; simp at e⟩
theorem HB.notref {B b : Nat} {w : World} {p mt mp r : Nat} {At : UInt64 → Option Int} {row : List UInt64} {v : Value} {E : List Ent} (h : HB B w p mt mp At row v) (k : RH b w r E) : r ∉ Hb p mt mp v := by
  intro hm
  obtain ⟨o, h1, -, h3⟩ := h.blocks r hm
  obtain ⟨u, hu, -⟩ := k
  rw [hu] at h1; cases h1; exact h3 _ rfl
theorem RH.due {B b : Nat} {w w' : World} {p mt mp r : Nat} {At : UInt64 → Option Int} {row : List UInt64} {v : Value} {E : List Ent} (k : RH b w r E) (h : HB B w p mt mp At row v) (f : Fr (Hb p mt mp v) w w') : RH b w' r E :=
  k.keep f (h.notref k) fun q hq => by
    obtain ⟨o, h1, h2, -⟩ := h.blocks q hq
    exact ⟨o, h1, h2⟩
theorem HB.ref {B b : Nat} {w w' : World} {p mt mp r : Nat} {At : UInt64 → Option Int} {row : List UInt64} {v : Value} {E : List Ent} (h : HB B w p mt mp At row v) (k : RH b w r E) (f : Fr [r] w w') : HB B w' p mt mp At row v := by
  have hn := h.notref k
  exact h.keep f fun q hq hq2 => hn (by simp at hq2; rw [← hq2]; exact hq)
theorem RH.notact {b : Nat} {w : World} {r g : Nat} {E : List Ent} (h : RH b w r E) {d : Int} {x a : UInt64} (hg : w.heap[g]? = some (actO d x a)) : g ≠ r := by
  rintro rfl
  obtain ⟨v, h, -⟩ := h
  rw [h] at hg; simp at hg
theorem fr_one {B : Nat} {w w' : World} {r : Nat} (f : Fr [r] w w') (hB : B ≤ r) (hB2 : B ≤ w.heap.size) : Below B w w' := f.below (by simpa using hB) hB2

/-! ### the acts, by what the document's heap has -/
def putE (E : List Ent) (x a : UInt64) : List Ent := if x ∈ E.map Prod.fst then E else insE E (x, a)
def putA (E : List Ent) (At : UInt64 → Option Int) (x a : UInt64) : UInt64 → Option Int := if x ∈ E.map Prod.fst then At else setF At x (a.toNat : Int)
def delA (E : List Ent) (At : UInt64 → Option Int) (x : UInt64) : UInt64 → Option Int := if x ∈ E.map Prod.fst then delF At x else At
def movE (E : List Ent) (x a : UInt64) : List Ent := if x ∈ E.map Prod.fst then insE (delE E x) (x, a) else E
def movA (E : List Ent) (At : UInt64 → Option Int) (x a : UInt64) : UInt64 → Option Int := if x ∈ E.map Prod.fst then setF At x (a.toNat : Int) else At
theorem mt_putA {At : UInt64 → Option Int} {E : List Ent} (k : Mt At E) (x a : UInt64) : Mt (putA E At x a) (putE E x a) := by
  unfold putA putE
  split
  · exact k
  · rename_i h; exact mt_put k h
theorem mt_delA {At : UInt64 → Option Int} {E : List Ent} (k : Mt At E) (x : UInt64) : Mt (delA E At x) (delE E x) := by
  unfold delA
  split
  · exact mt_del k x
  · rename_i h; rw [delE_not h]; exact k
theorem mt_movA {At : UInt64 → Option Int} {E : List Ent} (k : Mt At E) (x a : UInt64) : Mt (movA E At x a) (movE E x a) := by
  unfold movA movE
  split
  · have := mt_put (mt_del k x) (x := x) (a := a) (delE_out E x)
    rwa [move_as] at this
  · exact k
def HAct (B : Nat) (w : World) (p mt mp : Nat) (v : Value) (A2 : UInt64 → Option Int) (bb : Bool) (e : Ending) (w' : World) : Prop :=
  e = .returned (.bool bb) ∧ ∃ row' v', HB B w' p mt mp A2 row' v' ∧ Fr (Hb p mt mp v) w w' ∧ Below B w w'
def RAct (b : Nat) (w : World) (r : Nat) (E2 : List Ent) (bb : Bool) (e : Ending) (w' : World) : Prop := e = .returned (.bool bb) ∧ RH b w' r E2 ∧ Fr [r] w w'
section
variable {B : Nat} {w : World} {p mt mp r : Nat} {At : UInt64 → Option Int} {row : List UInt64} {v : Value} {E : List Ent}
theorem hput_b (x a : UInt64) (h : HB B w p mt mp At row v) (k : Mt At E) (hl : E.length ≤ 10000) (hB : B ≤ w.heap.size) :
    Calls Try.prog 8 #[pv p, vU x, vU a] w fun e w' => HAct B w p mt mp v (putA E At x a) (decide (x ∉ E.map Prod.fst)) e w' := by
  refine (hput_any B w p mt mp At row v x a h (by rw [mt_len h k]; exact hl) hB).mono ?_
  rintro e w' ⟨h1, h2⟩
  have hm := mt_row h k x
  by_cases hx : x ∈ E.map Prod.fst
  · obtain ⟨rfl, rfl⟩ := h1 (hm.2 hx)
    refine ⟨by rw [show decide (x ∉ E.map Prod.fst) = false by simpa using hx], row, v, ?_, Fr.refl _ _, Below.refl _ _⟩
    unfold putA; rw [if_pos hx]; exact h
  · obtain ⟨rfl, r2, v2, -, h3, h4, h5⟩ := h2 fun hh => hx (hm.1 hh)
    refine ⟨by rw [show decide (x ∉ E.map Prod.fst) = true by simpa using hx], r2, v2, ?_, h5.1, h4⟩
    unfold putA; rw [if_neg hx]; exact h3
theorem hdrop_b (x : UInt64) (h : HB B w p mt mp At row v) (k : Mt At E) (hl : E.length ≤ 10000) (hB : B ≤ w.heap.size) :
    Calls Try.prog 12 #[pv p, vU x] w fun e w' => HAct B w p mt mp v (delA E At x) (decide (x ∈ E.map Prod.fst)) e w' := by
  refine (hdrop_any B w p mt mp At row v x h (by rw [mt_len h k]; exact hl) hB).mono ?_
  rintro e w' ⟨h1, h2⟩
  have hm := mt_row h k x
  by_cases hx : x ∈ E.map Prod.fst
  · obtain ⟨rfl, r2, v2, -, h3, h4, h5⟩ := h2 (hm.2 hx)
    refine ⟨by rw [show decide (x ∈ E.map Prod.fst) = true by simpa using hx], r2, v2, ?_, h5.1, h4⟩
    unfold delA; rw [if_pos hx]; exact h3
  · obtain ⟨rfl, rfl⟩ := h1 fun hh => hx (hm.1 hh)
    refine ⟨by rw [show decide (x ∈ E.map Prod.fst) = false by simpa using hx], row, v, ?_, Fr.refl _ _, Below.refl _ _⟩
    unfold delA; rw [if_neg hx]; exact h
theorem hmove_b (x a : UInt64) (h : HB B w p mt mp At row v) (k : Mt At E) (hl : E.length ≤ 10000) (hB : B ≤ w.heap.size) :
    Calls Try.prog 14 #[pv p, vU x, vU a] w fun e w' => HAct B w p mt mp v (movA E At x a) (decide (x ∈ E.map Prod.fst)) e w' := by
  refine (hmove_any B w p mt mp At row v x a h (by rw [mt_len h k]; exact hl) hB).mono ?_
  rintro e w' ⟨h1, h2⟩
  have hm := mt_row h k x
  by_cases hx : x ∈ E.map Prod.fst
  · obtain ⟨rfl, r2, v2, -, h3, h4, h5⟩ := h2 (hm.2 hx)
    refine ⟨by rw [show decide (x ∈ E.map Prod.fst) = true by simpa using hx], r2, v2, ?_, h5.1, h4⟩
    unfold movA; rw [if_pos hx]; exact h3
  · obtain ⟨rfl, rfl⟩ := h1 fun hh => hx (hm.1 hh)
    refine ⟨by rw [show decide (x ∈ E.map Prod.fst) = false by simpa using hx], row, v, ?_, Fr.refl _ _, Below.refl _ _⟩
    unfold movA; rw [if_neg hx]; exact h
theorem hlen_b (h : HB B w p mt mp At row v) (k : Mt At E) : Calls Try.prog 20 #[pv p] w fun e w' => e = .returned (.int .i64 (E.length : Nat)) ∧ w = w' := by
  rw [← mt_len h k]; exact hlen_any B w p mt mp At row v h
theorem hfirst_b (h : HB B w p mt mp At row v) (k : Mt At E) : Calls Try.prog 16 #[pv p] w fun e w' => e = .returned (fstE E) ∧ Ext w w' := by
  rw [← mt_first h k]; exact hfirst_any B w p mt mp At row v h
theorem hat_b (x : UInt64) (h : HB B w p mt mp At row v) (k : Mt At E) : Calls Try.prog 18 #[pv p, vU x] w fun e w' => e = .returned (atE E x) ∧ w = w' := by
  rw [← mt_atV k x]; exact hat_any B w p mt mp At row v x h
theorem rhput_b (x a : UInt64) (h : RH B w r E) (hl : E.length ≤ 10000) (hB : B ≤ w.heap.size) :
    Calls Try.prog 9 #[pv r, vU x, vU a] w fun e w' => RAct B w r (putE E x a) (decide (x ∉ E.map Prod.fst)) e w' := by
  refine (rhput_any B w r E x a h hB hl).mono ?_
  rintro e w' ⟨h1, h2⟩
  by_cases hx : x ∈ E.map Prod.fst
  · obtain ⟨rfl, rfl⟩ := h1 hx
    refine ⟨by rw [show decide (x ∉ E.map Prod.fst) = false by simpa using hx], ?_, Fr.refl _ _⟩
    unfold putE; rw [if_pos hx]; exact h
  · obtain ⟨rfl, h3, h4⟩ := h2 hx
    refine ⟨by rw [show decide (x ∉ E.map Prod.fst) = true by simpa using hx], ?_, h4⟩
    unfold putE; rw [if_neg hx]; exact h3
theorem rhdrop_b (x : UInt64) (h : RH B w r E) (k : Mt At E) (hl : E.length ≤ 10000) (hB : B ≤ w.heap.size) :
    Calls Try.prog 13 #[pv r, vU x] w fun e w' => RAct B w r (delE E x) (decide (x ∈ E.map Prod.fst)) e w' := by
  refine (rhdrop_any B w r E x h hB hl k.nd).mono ?_
  rintro e w' ⟨h1, h2⟩
  by_cases hx : x ∈ E.map Prod.fst
  · obtain ⟨rfl, h3, h4⟩ := h2 hx
    exact ⟨by rw [show decide (x ∈ E.map Prod.fst) = true by simpa using hx], h3, h4⟩
  · obtain ⟨rfl, rfl⟩ := h1 hx
    refine ⟨by rw [show decide (x ∈ E.map Prod.fst) = false by simpa using hx], ?_, Fr.refl _ _⟩
    rw [delE_not hx]; exact h
theorem rhmove_b (x a : UInt64) (h : RH B w r E) (k : Mt At E) (hl : E.length ≤ 10000) (hB : B ≤ w.heap.size) :
    Calls Try.prog 15 #[pv r, vU x, vU a] w fun e w' => RAct B w r (movE E x a) (decide (x ∈ E.map Prod.fst)) e w' := by
  refine (rhmove_any B w r E x a h hB hl k.nd).mono ?_
  rintro e w' ⟨h1, h2⟩
  by_cases hx : x ∈ E.map Prod.fst
  · obtain ⟨rfl, h3, h4⟩ := h2 hx
    refine ⟨by rw [show decide (x ∈ E.map Prod.fst) = true by simpa using hx], ?_, h4⟩
    unfold movE; rw [if_pos hx]; exact h3
  · obtain ⟨rfl, rfl⟩ := h1 hx
    refine ⟨by rw [show decide (x ∈ E.map Prod.fst) = false by simpa using hx], ?_, Fr.refl _ _⟩
    unfold movE; rw [if_neg hx]; exact h
/-- What Take tells, and leaves. -/
def tkV (E : List Ent) (now : UInt64) : Value := match E with
  | [] => noneV
  | z :: _ => if now.toNat < z.2.toNat then noneV else .tuple #[vU z.1, vU z.2, .bool true]
def tkE (E : List Ent) (now : UInt64) : List Ent := match E with
  | [] => []
  | z :: M => if now.toNat < z.2.toNat then z :: M else delE (z :: M) z.1
def tkA (E : List Ent) (At : UInt64 → Option Int) (now : UInt64) : UInt64 → Option Int := match E with
  | [] => At
  | z :: _ => if now.toNat < z.2.toNat then At else delF At z.1
theorem mt_tkA (k : Mt At E) (now : UInt64) : Mt (tkA E At now) (tkE E now) := by
  cases E with
  | nil => exact k
  | cons z M =>
    unfold tkA tkE
    simp only
    split
    · exact k
    · exact mt_del k z.1
theorem tkV_tuple (E : List Ent) (now : UInt64) : ∃ h0 a0 n0, tkV E now = .tuple #[vU h0, vU a0, .bool n0] := by
  cases E with
  | nil => exact ⟨0, 0, false, rfl⟩
  | cons z M =>
    unfold tkV
    simp only
    split
    · exact ⟨0, 0, false, rfl⟩
    · exact ⟨z.1, z.2, true, rfl⟩
theorem tkE_len (E : List Ent) (now : UInt64) : (tkE E now).length ≤ E.length := by
  cases E with
  | nil => exact Nat.le_refl _
  | cons z M =>
    unfold tkE
    simp only
    split
    · exact Nat.le_refl _
    · exact delE_len _ _
theorem htake_b (now : UInt64) (h : HB B w p mt mp At row v) (k : Mt At E) (hl : E.length ≤ 10000) (hB : B ≤ w.heap.size) :
    Calls Try.prog 10 #[pv p, vU now] w fun e w' => e = .returned (tkV E now) ∧ ∃ row' v', HB B w' p mt mp (tkA E At now) row' v' ∧ Fr (Hb p mt mp v) w w' ∧ Below B w w' := by
  refine (htake_any B w p mt mp At row v now h (by rw [mt_len h k]; exact hl) hB).mono ?_
  have hf := mt_first h k
  have hlen := mt_len h k
  rintro e w' (⟨h1, rfl, h2⟩ | ⟨x, r2, rfl, h1, rfl, row', v', -, h3, h4, h5⟩)
  · rcases h1 with rfl | ⟨x, r2, rfl, h1⟩
    · obtain rfl : E = [] := List.length_eq_zero_iff.1 (by simpa using hlen.symm)
      exact ⟨rfl, [], v, h.ext h2, Ext.fr h2, h2.mono hB⟩
    · cases E with
      | nil => simp at hlen
      | cons z M =>
        have e1 : x = z.1 := by
          have : fst At (x :: r2) = fstE (z :: M) := hf
          simp [fst, fstE] at this
          exact UInt64.toNat_inj.1 (by have := this.1; omega)
        subst e1
        rw [tim_lk k (z := z) (by simp)] at h1
        have h9 : now.toNat < z.2.toNat := by omega
        unfold tkV tkA
        simp only [if_pos h9]
        exact ⟨trivial, _, v, h.ext h2, Ext.fr h2, h2.mono hB⟩
  · cases E with
    | nil => simp at hlen
    | cons z M =>
      have e1 : x = z.1 := by
        have : fst At (x :: r2) = fstE (z :: M) := hf
        simp [fst, fstE] at this
        exact UInt64.toNat_inj.1 (by have := this.1; omega)
      subst e1
      rw [tim_lk k (z := z) (by simp)] at h1
      rw [tim_lk k (z := z) (by simp)]
      have h9 : ¬ now.toNat < z.2.toNat := by omega
      unfold tkV tkA
      simp only [if_neg h9]
      exact ⟨trivial, row', v', h3, h5.1, h4⟩
theorem rhtake_b (now : UInt64) (h : RH B w r E) (k : Mt At E) (hl : E.length ≤ 10000) (hB : B ≤ w.heap.size) :
    Calls Try.prog 11 #[pv r, vU now] w fun e w' => e = .returned (tkV E now) ∧ RH B w' r (tkE E now) ∧ Fr [r] w w' := by
  refine (rhtake_any B w r E now h hB hl k.nd).mono ?_
  rintro e w' (⟨h1, rfl, h2⟩ | ⟨z, M, rfl, h1, rfl, h3, h4⟩)
  · rcases h1 with rfl | ⟨z, M, rfl, h1⟩
    · exact ⟨rfl, h.ext h2, Ext.fr h2⟩
    · unfold tkV tkE
      simp only [if_pos h1]
      exact ⟨trivial, h.ext h2, Ext.fr h2⟩
  · have h9 : ¬ now.toNat < z.2.toNat := by omega
    unfold tkV tkE
    simp only [if_neg h9]
    exact ⟨trivial, h3, h4⟩
end
/-- What holds inside a region that acts on both heaps: the package's by its operation i, then the document's by its operation j. -/
structure R2 (i j : Nat) (ws : World) (p mt mp r bx : Nat) (At A2 : UInt64 → Option Int) (row : List UInt64) (v : Value) (E E2 : List Ent) (d : Int) (x a : UInt64) (L : Nat → Bool) (σ : Nat → Value) (w : World) : Prop where
  ext : Ext ws w
  box : w.heap[bx]? = some (actO d x a)
  s0 : L i = false → HB ws.heap.size w p mt mp At row v ∧ RH ws.heap.size w r E
  s1 : L i = true → L j = false → (∃ row' v', HB ws.heap.size w p mt mp A2 row' v') ∧ RH ws.heap.size w r E
  s2 : L j = true → (∃ row' v', HB ws.heap.size w p mt mp A2 row' v') ∧ RH ws.heap.size w r E2
section
variable {i j : Nat} {ws w w' : World} {p mt mp r bx : Nat} {At A2 : UInt64 → Option Int} {row : List UInt64} {v : Value} {E E2 : List Ent} {d : Int} {x a : UInt64} {L : Nat → Bool} {σ σ' : Nat → Value}
theorem R2.start (hE : Ext ws w) (hb : w.heap[bx]? = some (actO d x a)) (h1 : HB ws.heap.size w p mt mp At row v) (h2 : RH ws.heap.size w r E) : R2 i j ws p mt mp r bx At A2 row v E E2 d x a (fun _ => false) σ { w with drawn := w.drawn + 1 } :=
  ⟨hE.trans (Ext.draw w), (Ext.draw w).obj hb, fun _ => ⟨h1.ext (Ext.draw w), h2.ext (Ext.draw w)⟩, fun h => by simp at h, fun h => by simp at h⟩
theorem R2.other (h : R2 i j ws p mt mp r bx At A2 row v E E2 d x a L σ w) {k : Nat} (hk : i ≠ k ∧ j ≠ k) : R2 i j ws p mt mp r bx At A2 row v E E2 d x a (upd L k) σ' w :=
  ⟨h.ext, h.box, by rw [updN hk.1]; exact h.s0, by rw [updN hk.1, updN hk.2]; exact h.s1, by rw [updN hk.2]; exact h.s2⟩
theorem R2.bx_lt (h : R2 i j ws p mt mp r bx At A2 row v E E2 d x a L σ w) : bx < w.heap.size := (Array.getElem?_eq_some_iff.1 h.box).1
theorem R2.three (h : R2 i j ws p mt mp r bx At A2 row v E E2 d x a L σ w) (hL : L i = false) (hJ : L j = false) (hij : j ≠ i) {row' : List UInt64} {v' : Value} (h3 : HB ws.heap.size w' p mt mp A2 row' v') (f : Fr (Hb p mt mp v) w w') (b : Below ws.heap.size w w') : R2 i j ws p mt mp r bx At A2 row v E E2 d x a (upd L i) σ' w' := by
  obtain ⟨a1, a2⟩ := h.s0 hL
  refine ⟨Below.trans h.ext b, (f.block bx h.bx_lt (a1.nblk h.box)).trans h.box, fun e => (by rw [updE] at e; cases e), fun _ _ => ⟨⟨row', v', h3⟩, a2.due a1 f⟩, fun e => ?_⟩
  rw [updN hij, hJ] at e; cases e
theorem R2.seven (h : R2 i j ws p mt mp r bx At A2 row v E E2 d x a L σ w) (hL : L i = true) (hJ : L j = false) (hij : j ≠ i) (hr : RH ws.heap.size w' r E2) (f : Fr [r] w w') (hB : ws.heap.size ≤ r) (hB2 : ws.heap.size ≤ w.heap.size) : R2 i j ws p mt mp r bx At A2 row v E E2 d x a (upd L j) σ' w' := by
  obtain ⟨⟨row', v', a1⟩, a2⟩ := h.s1 hL hJ
  refine ⟨Below.trans h.ext (fr_one f hB hB2), (f.block bx h.bx_lt (by simpa using a2.notact h.box)).trans h.box, fun e => ?_, fun _ e => (by rw [updE] at e; cases e), fun _ => ⟨⟨row', v', a1.ref a2 f⟩, hr⟩⟩
  rw [updN (Ne.symm hij), hL] at e; cases e
end
end Go.Proofs.Ytkagacopgjcdnaa
