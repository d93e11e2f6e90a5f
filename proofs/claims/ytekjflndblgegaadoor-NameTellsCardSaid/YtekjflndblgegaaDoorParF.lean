/- The rule of ParE for a region in which operations read a slot that a later operation writes: what they read is what it was. 'old' names them: operation and slot. -/
import Derived.Test.YtekjflndblgegaaDoorParE
namespace Go.ParF
open Go.RowKit Go.Par Go.ParE
open Go.ParB (upd Lof Lof_set)
open Go.ParC (VW CInv)

def reads (old : List (Nat × Nat)) (i t : Nat) : Bool := old.any fun p => p.1 == i && p.2 == t
def knows (old : List (Nat × Nat)) (ops : List Oper) (V : Nat → Value → World → Prop) (a0 : Act) (i : Nat) (ρ : Operand → Value) (w : World) : Operand → Prop
  | .tmp t => match reads old i t with
    | true => ρ (.tmp t) = a0.tmps.getD t undef
    | false => match writer ops t with
      | some j => V j (ρ (.tmp t)) w
      | none => ρ (.tmp t) = a0.tmps.getD t undef
  | x => ρ x = a0.eval x
def knowsAll (old : List (Nat × Nat)) (ops : List Oper) (V : Nat → Value → World → Prop) (a0 : Act) (i : Nat) (ρ : Operand → Value) (w : World) : List Operand → Prop
  | [] => True
  | x :: r => knows old ops V a0 i ρ w x ∧ knowsAll old ops V a0 i ρ w r
def okF (old : List (Nat × Nat)) (ops : List Oper) (n : Nat) : Bool :=
  (ops.all fun o => match o.dst with | some d => decide (d < n) | none => true) &&
  decide ((ops.filterMap (·.dst)).Nodup) &&
  ops.zipIdx.all fun (o, i) =>
    (o.after.all fun e => !Region.binds .any e || decide (e.on < i)) &&
    (o.op.operands.all fun x => match x with
      | .tmp t => (match writer ops t with
        | some j => (match reads old i t with
          | true => (preds ops j).any (fun k => reach ops 8 k i)
          | false => o.after.any (fun e => e.on == j && Region.binds .any e))
        | none => true)
      | _ => true) &&
    (match o.guard with
      | some (g, _) => o.after.any (fun e => e.on == g && Region.binds .any e) && ((ops[g]?).bind (·.dst)).isSome
      | none => true) &&
    (match o.op with | .select .. => false | _ => true)
def goals (P : Program) (old : List (Nat × Nat)) (ops : List Oper) (R : (Nat → Bool) → (Nat → Value) → World → Prop) (V : Nat → Value → Prop) (a0 : Act) : List Oper → Nat → Prop
  | [], _ => True
  | o :: r, i =>
    (∀ (L : Nat → Bool) (ρ : Operand → Value) (w : World), R L (slotsR ρ) w → Closed ops L → L i = false → (o.after.all fun e => !Region.binds .any e || L e.on) = true → knowsAll old ops (VW V) a0 i ρ w o.op.operands.toList → val P o ρ w fun v w' => R (upd L i) (putS (slotsR ρ) o.dst v) w' ∧ V i v) ∧
    goals P old ops R V a0 r (i + 1)
theorem goals_at {P : Program} {old : List (Nat × Nat)} {ops : List Oper} {R : (Nat → Bool) → (Nat → Value) → World → Prop} {V : Nat → Value → Prop} {a0 : Act} :
    ∀ (l : List Oper) (k : Nat), goals P old ops R V a0 l k → ∀ i o, l[i]? = some o →
      ∀ (L : Nat → Bool) (ρ : Operand → Value) (w : World), R L (slotsR ρ) w → Closed ops L → L (k + i) = false → (o.after.all fun e => !Region.binds .any e || L e.on) = true → knowsAll old ops (VW V) a0 (k + i) ρ w o.op.operands.toList → val P o ρ w fun v w' => R (upd L (k + i)) (putS (slotsR ρ) o.dst v) w' ∧ V (k + i) v
  | [], _, _, i, o, h => by simp at h
  | o :: r, k, h, 0, o', ho => by
    simp at ho; subst ho; exact h.1
  | o :: r, k, h, i + 1, o', ho => by
    have := goals_at r (k + 1) h.2 i o' (by simpa using ho)
    rw [show k + 1 + i = k + (i + 1) by omega] at this
    exact this
section
variable {P : Program} {ops : List Oper} {R : (Nat → Bool) → (Nat → Value) → World → Prop} {V : Nat → Value → Prop} {a0 : Act} {old : List (Nat × Nat)}
theorem slots_put (hB : okF old ops a0.tmps.size = true) {a : Act} (hs : a.tmps.size = a0.tmps.size) {i : Nat} {o : Oper} (hi : ops[i]? = some o) (v : Value) : slots (a.put o.dst v) = putS (slots a) o.dst v := by
  simp only [okF, Bool.and_eq_true] at hB
  obtain ⟨⟨hb1, -⟩, -⟩ := hB
  funext s
  unfold slots putS
  by_cases h : o.dst = some s
  · rw [if_pos h, h, getD_put_same]
    rw [hs]
    have := List.all_eq_true.1 hb1 o (List.mem_of_getElem? hi)
    simpa [h] using this
  · rw [if_neg h, getD_put_ne h]
theorem step_f {X : World → World → Prop} {V : Nat → Value → World → Prop} {w0 : World} {old : List (Nat × Nat)} (hB : okF old ops a0.tmps.size = true) (trans : ∀ a b c, X a b → X b c → X a c) (stab : ∀ i v w w', X w w' → V i v w → V i v w')
    {listed : Array Bool} (hls : listed.size = ops.length) {a : Act} {w w' : World} {i : Nat} {o : Oper} {v : Value} (hi : ops[i]? = some o)
    (inv : Inv ops X V a0 w0 listed a w) (hX : X w w') (hv : V i v w') : Inv ops X V a0 w0 (listed.setIfInBounds i true) (a.put o.dst v) w' := by
  simp only [okF, Bool.and_eq_true] at hB
  obtain ⟨⟨hb1, hb2⟩, hb3⟩ := hB
  have hnd := of_decide_eq_true hb2
  have hilt : i < listed.size := by
    have := (List.getElem?_eq_some_iff.1 hi).1; omega
  refine ⟨by rw [size_put]; exact inv.size, by rw [defers_put]; exact inv.defers, trans _ _ _ inv.ext hX, ?_, ?_⟩
  · intro j o' d hj hl hd
    by_cases hij : i = j
    · subst hij
      rw [hi] at hj; cases hj
      have hdlt : d < a.tmps.size := by
        rw [inv.size]
        have := List.all_eq_true.1 hb1 o (List.mem_of_getElem? hi)
        simpa [hd] using this
      rw [hd, getD_put_same hdlt]
      exact hv
    · have hne : o.dst ≠ some d := fun e => hij (nodup_dst hnd hi hj e hd)
      rw [getD_put_ne hne]
      rw [getD_set_ne false hij] at hl
      exact stab _ _ _ _ hX (inv.done j o' d hj hl hd)
  · intro s hs
    have hne : o.dst ≠ some s := fun e => by
      have := hs i o hi e
      simp [hilt] at this
    rw [getD_put_ne hne]
    refine inv.old s fun j o' hj hd => ?_
    have := hs j o' hj hd
    by_cases hij : i = j
    · subst hij
      rw [hi] at hj; cases hj
      exact absurd hd hne
    · rwa [getD_set_ne false hij] at this

theorem cinv_step (hB : okF old ops a0.tmps.size = true) {listed : Array Bool} (hls : listed.size = ops.length) {a : Act} {w w' : World} {i : Nat} {o : Oper} {v : Value} (hi : ops[i]? = some o)
    (inv : CInv ops V a0 listed a w) (hv : V i v) : CInv ops V a0 (listed.setIfInBounds i true) (a.put o.dst v) w' := by
  have h := step_f (X := fun _ _ => True) (w' := w') hB (fun _ _ _ _ _ => trivial) (fun _ _ _ _ _ h => h) hls hi inv trivial (show VW V i v w' from hv)
  exact ⟨h.size, h.defers, trivial, h.done, h.old⟩
theorem knowsAll_of_inv (hB : okF old ops a0.tmps.size = true) {listed : Array Bool} {a : Act} {w : World} {i : Nat} {o : Oper} (hi : ops[i]? = some o)
    (inv : CInv ops V a0 listed a w) (hC : Closed ops (Lof listed)) (hun : listed.getD i false = false) (hr : ∀ e ∈ o.after, Region.binds .any e = true → listed.getD e.on false = true) :
    knowsAll old ops (VW V) a0 i a.eval w o.op.operands.toList := by
  simp only [okF, Bool.and_eq_true] at hB
  obtain ⟨⟨hb1, hb2⟩, hb3⟩ := hB
  have hnd := of_decide_eq_true hb2
  have h3 := List.all_eq_true.1 hb3 (o, i) (by
    rw [List.mem_zipIdx_iff_getElem?]; simpa using hi)
  simp only [Bool.and_eq_true] at h3
  obtain ⟨⟨⟨_, hop⟩, _⟩, _⟩ := h3
  rw [← Array.all_toList] at hop
  have hop' := List.all_eq_true.1 hop
  generalize o.op.operands.toList = l at hop'
  induction l with
  | nil => trivial
  | cons x r ih =>
    refine ⟨?_, ih fun y hy => hop' y (List.mem_cons_of_mem _ hy)⟩
    have hx := hop' x List.mem_cons_self
    cases x with
    | tmp t =>
      simp only [knows]
      cases hw : writer ops t with
      | none =>
        have h9 : a.tmps.getD t undef = a0.tmps.getD t undef := inv.old t fun j o' hj hd => absurd hd (writer_none hw hj)
        cases reads old i t <;> exact h9
      | some j =>
        obtain ⟨o', hj, hd⟩ := writer_some hw
        cases hrd : reads old i t with
        | true =>
          simp only [hw, hrd] at hx ⊢
          refine inv.old t fun j' o'' hj' hd' => ?_
          have e9 := nodup_dst hnd hj' hj hd' hd
          subst e9
          cases hlj : listed.getD j' false with
          | false => rfl
          | true =>
            exfalso
            obtain ⟨k, hk, h2⟩ := List.any_eq_true.1 hx
            have q : Lof listed i = true := hC.ran 8 k i h2 (hC.pred hlj hk)
            have q2 : listed.getD i false = true := q
            rw [hun] at q2; cases q2
        | false =>
          simp only [hw, hrd] at hx ⊢
          obtain ⟨e, he, hx⟩ := (any_mem _ _).1 hx
          simp only [Bool.and_eq_true, beq_iff_eq] at hx
          have := hr e he hx.2
          rw [hx.1] at this
          exact inv.done j o' t hj this hd
    | const v => rfl
    | global g => rfl
    | func f => rfl
theorem wpAny_f (Q : Exit → Act → World → Prop) (hB : okF old ops a0.tmps.size = true) (hng : (ops.all fun o => o.guard.isNone) = true) (hg : goals P old ops R V a0 ops 0)
    (fin : ∀ a w, CInv ops V a0 (Array.replicate ops.length true) a w → R (Lof (Array.replicate ops.length true)) (slots a) w → Q .normal a w) :
    ∀ (fuel : Nat) (listed : Array Bool) (a : Act) (w : World), listed.size = ops.length → (listed.toList.filter (· == false)).length ≤ fuel →
      CInv ops V a0 listed a w → Closed ops (Lof listed) → R (Lof listed) (slots a) w → wpAny P .any ops.toArray Q fuel listed a w := by
  have hB' := hB
  simp only [okF, Bool.and_eq_true] at hB'
  have hb3 := hB'.2
  have ended : ∀ (listed : Array Bool) (a : Act) (w : World), listed.size = ops.length → CInv ops V a0 listed a w → R (Lof listed) (slots a) w → Region.ready .any ops.toArray listed = [] → Q .normal a w := by
    intro listed a w hls inv hR hnil
    have all : ∀ n i, i ≤ n → i < ops.length → listed.getD i false = true := by
      intro n
      induction n with
      | zero =>
        intro i hi hlt
        obtain rfl : i = 0 := by omega
        cases hl : listed.getD 0 false with
        | true => rfl
        | false =>
          exfalso
          have : 0 ∈ Region.ready .any ops.toArray listed := by
            rw [mem_ready]
            refine ⟨by simp [hls ▸ hlt] at hl ⊢; exact hl, ops[0], by simp [hlt], fun e he hb => ?_⟩
            have h3 := List.all_eq_true.1 hb3 (ops[0], 0) (by rw [List.mem_zipIdx_iff_getElem?]; simp [hlt])
            simp only [Bool.and_eq_true] at h3
            have := (Array.all_eq_true_iff_forall_mem.1 h3.1.1.1) e he
            simp [hb] at this
          rw [hnil] at this; cases this
      | succ n ih =>
        intro i hi hlt
        cases hl : listed.getD i false with
        | true => rfl
        | false =>
          exfalso
          have : i ∈ Region.ready .any ops.toArray listed := by
            rw [mem_ready]
            refine ⟨by simp [hls ▸ hlt] at hl ⊢; exact hl, ops[i], by simp [hlt], fun e he hb => ?_⟩
            have h3 := List.all_eq_true.1 hb3 (ops[i], i) (by rw [List.mem_zipIdx_iff_getElem?]; simp [hlt])
            simp only [Bool.and_eq_true] at h3
            have := (Array.all_eq_true_iff_forall_mem.1 h3.1.1.1) e he
            simp [hb] at this
            exact ih e.on (by omega) (by omega)
          rw [hnil] at this; cases this
    have he : listed = Array.replicate ops.length true := by
      apply Array.ext
      · simp [hls]
      · intro i h1 h2
        have := all i i (Nat.le_refl _) (by simpa using h2)
        simp [h1] at this
        simp [this]
    subst he
    exact fin a w inv hR
  intro fuel
  induction fuel with
  | zero =>
    intro listed a w hls hf inv hC hR
    have hnil : Region.ready .any ops.toArray listed = [] := by
      rw [List.eq_nil_iff_forall_not_mem]
      intro i hi
      have h0 := (mem_ready.1 hi).1
      have hlt : i < listed.size := by
        rcases Nat.lt_or_ge i listed.size with h' | h'
        · exact h'
        · simp [Array.getElem?_eq_none h'] at h0
      simp [hlt] at h0
      have : false ∈ listed.toList.filter (· == false) := by
        rw [List.mem_filter]
        exact ⟨by rw [← h0]; exact Array.mem_toList_iff.2 (Array.getElem_mem hlt), rfl⟩
      have := List.length_pos_of_mem this
      omega
    exact ⟨hnil, ended listed a w hls inv hR hnil⟩
  | succ fuel ih =>
    intro listed a w hls hf inv hC hR
    refine ⟨ended listed a w hls inv hR, fun i hi => ?_⟩
    obtain ⟨hun, o, ho, hr⟩ := mem_ready.1 hi
    have ho' : ops[i]? = some o := by simpa using ho
    have hlt : i < listed.size := by
      rcases Nat.lt_or_ge i listed.size with h' | h'
      · exact h'
      · simp [Array.getElem?_eq_none h'] at hun
    have hcount : ((listed.setIfInBounds i true).toList.filter (· == false)).length ≤ fuel := by
      have h1 : listed[i] = false := by simpa [hlt] using hun
      have : ∀ (l : List Bool) (k : Nat) (hk : k < l.length), l[k] = false → ((l.set k true).filter (· == false)).length + 1 = (l.filter (· == false)).length := by
        intro l
        induction l with
        | nil => intro k hk; simp at hk
        | cons b l ihl =>
          intro k hk hb
          match k with
          | 0 => simp at hb; subst hb; simp
          | k + 1 =>
            simp at hb
            have := ihl k (by simpa using hk) hb
            rw [List.set_cons_succ, List.filter_cons, List.filter_cons]
            split
            · rw [List.length_cons, List.length_cons]; omega
            · exact this
      have := this listed.toList i (by simpa using hlt) (by simpa using h1)
      simp only [Array.toList_setIfInBounds]
      omega
    have hg' := goals_at ops 0 hg i o ho'
    simp only [Nat.zero_add] at hg'
    have next : ∀ v w', R (upd (Lof listed) i) (putS (slots a) o.dst v) w' → V i v → wpAny P .any ops.toArray Q fuel (listed.setIfInBounds i true) (a.put o.dst v) w' := fun v w' hR hv =>
      ih _ _ _ (by simpa using hls) hcount (cinv_step hB hls ho' inv hv) (by rw [Lof_set hlt]; exact hC.step ho' hr) (by rw [Lof_set hlt, slots_put hB inv.size ho']; exact hR)
    have hLi : Lof listed i = false := by unfold Lof; simp [hlt] at hun ⊢; exact hun
    have hgn : o.guard = none := by
      have := List.all_eq_true.1 hng o (List.mem_of_getElem? ho')
      simpa using this
    unfold wpOp
    simp only [ho]
    split
    · left
      refine wp_of_val (hg' (Lof listed) a.eval w hR hC hLi ?_ (knowsAll_of_inv hB ho' inv hC hLi hr)) fun v w' h => next v w' h.1 h.2
      rw [Array.all_eq_true_iff_forall_mem]
      intro e he
      by_cases hb : Region.binds .any e = true
      · have := hr e he hb
        unfold Lof
        simp [hb, this]
      · simp [hb]
    · rename_i hw
      unfold Region.wanted at hw
      simp [hgn] at hw
theorem wp_region_f {id : Nat} {Q : Exit → Act → World → Prop} {l : List Oper} (hm : P.follows .mixedOrders = true) (old : List (Nat × Nat)) {a0 : Act} {w0 : World} (R : (Nat → Bool) → (Nat → Value) → World → Prop) (V : Nat → Value → Prop)
    (hB : okF old l a0.tmps.size = true) (hng : (l.all fun o => o.guard.isNone) = true) (h0 : R (fun _ => false) (slots a0) { w0 with drawn := w0.drawn + 1 }) (hg : goals P old l R V a0 l 0)
    (fin : ∀ a w, CInv l V a0 (Array.replicate l.length true) a w → R (Lof (Array.replicate l.length true)) (slots a) w → Q .normal (putAll a0 a (l.filterMap (·.dst))) w) :
    (Code.region id l.toArray true).wp P Q a0 w0 := by
  refine wp_region_any hm ?_
  refine wpAny_f Q hB hng hg (fun a w inv hR => by have := fin a w inv hR; rw [← Par.Inv.act inv] at this; exact this) _ _ _ _ (by simp) (by simp) ⟨rfl, rfl, trivial, ?_, fun _ _ => rfl⟩ ?_ ?_
  · intro j o d hj hl
    simp [Array.getElem?_replicate] at hl
    split at hl <;> simp_all
  · intro k o hk hl
    unfold Lof at hl
    simp [Array.getElem?_replicate] at hl
    split at hl <;> simp_all
  · have : Lof (Array.replicate l.length false) = fun _ => false := by
      funext k; unfold Lof
      simp [Array.getElem?_replicate]
      split <;> simp
    rw [List.size_toArray, this]; exact h0
end
end Go.ParF
