/- The rule for a region that draws its order, wider: an operation's step may be of a kind of its own, and what is known of a value may hang on which operations have run. -/
import Derived.Test.YtijpokajhjhllaaGreatDoorPar
import Derived.Test.YtijpokajhjhllaaGreatDoorLib
namespace Go.ParB
open Go.RowKit Go.Par

def upd (L : Nat → Bool) (i : Nat) : Nat → Bool := fun k => if k = i then true else L k
def Lof (listed : Array Bool) : Nat → Bool := fun k => listed.getD k false
theorem Lof_set {listed : Array Bool} {i : Nat} (h : i < listed.size) : Lof (listed.setIfInBounds i true) = upd (Lof listed) i := by
  funext k
  unfold Lof upd
  by_cases e : k = i
  · subst e; simp [h]
  · simp [e, Array.getElem?_setIfInBounds_ne (Ne.symm e)]

/-- What is known of an operand's value when operation i runs. -/
def knows (ops : List Oper) (V : Nat → (Nat → Bool) → Value → World → Prop) (L : Nat → Bool) (a0 : Act) (ρ : Operand → Value) (w : World) : Operand → Prop
  | .tmp t => match writer ops t with
    | some j => V j L (ρ (.tmp t)) w
    | none => ρ (.tmp t) = a0.tmps.getD t undef
  | x => ρ x = a0.eval x

def knowsAll (ops : List Oper) (V : Nat → (Nat → Bool) → Value → World → Prop) (L : Nat → Bool) (a0 : Act) (ρ : Operand → Value) (w : World) : List Operand → Prop
  | [] => True
  | x :: r => knows ops V L a0 ρ w x ∧ knowsAll ops V L a0 ρ w r

def guardHolds (V : Nat → (Nat → Bool) → Value → World → Prop) (L : Nat → Bool) (w : World) (o : Oper) : Prop :=
  match o.guard with
  | none => True
  | some (g, want) => V g L (.bool want) w

def guardFails (V : Nat → (Nat → Bool) → Value → World → Prop) (L : Nat → Bool) (w : World) (o : Oper) (i : Nat) : Prop :=
  match o.guard with
  | none => True
  | some (g, want) => ∀ u, V g L u w → u = .bool want ∨ V i (upd L i) undef w

def goals (P : Program) (ops : List Oper) (R : World → World → Prop) (X : Nat → World → World → Prop) (V : Nat → (Nat → Bool) → Value → World → Prop) (a0 : Act) (w0 : World) : List Oper → Nat → Prop
  | [], _ => True
  | o :: r, i =>
    ((∀ L w, R w0 w → guardFails V L w o i) ∧
     (∀ (L : Nat → Bool) (ρ : Operand → Value) (w : World), R w0 w → L i = false → guardHolds V L w o → knowsAll ops V L a0 ρ w o.op.operands.toList → val P o ρ w fun v w' => X i w w' ∧ V i (upd L i) v w')) ∧
    goals P ops R X V a0 w0 r (i + 1)

theorem goals_at {P : Program} {ops : List Oper} {R : World → World → Prop} {X : Nat → World → World → Prop} {V : Nat → (Nat → Bool) → Value → World → Prop} {a0 : Act} {w0 : World} :
    ∀ (l : List Oper) (k : Nat), goals P ops R X V a0 w0 l k → ∀ i o, l[i]? = some o →
      (∀ L w, R w0 w → guardFails V L w o (k + i)) ∧ (∀ (L : Nat → Bool) (ρ : Operand → Value) (w : World), R w0 w → L (k + i) = false → guardHolds V L w o → knowsAll ops V L a0 ρ w o.op.operands.toList → val P o ρ w fun v w' => X (k + i) w w' ∧ V (k + i) (upd L (k + i)) v w')
  | [], _, _, i, o, h => by simp at h
  | o :: r, k, h, 0, o', ho => by
    simp at ho; subst ho; exact h.1
  | o :: r, k, h, i + 1, o', ho => by
    have := goals_at r (k + 1) h.2 i o' (by simpa using ho)
    rw [show k + 1 + i = k + (i + 1) by omega] at this
    exact this

structure Inv (ops : List Oper) (R : World → World → Prop) (V : Nat → (Nat → Bool) → Value → World → Prop) (a0 : Act) (w0 : World) (listed : Array Bool) (a : Act) (w : World) : Prop where
  size : a.tmps.size = a0.tmps.size
  defers : a.defers = a0.defers
  ext : R w0 w
  done : ∀ j o d, ops[j]? = some o → listed.getD j false = true → o.dst = some d → V j (Lof listed) (a.tmps.getD d undef) w
  old : ∀ s, (∀ j o, ops[j]? = some o → o.dst = some s → listed.getD j false = false) → a.tmps.getD s undef = a0.tmps.getD s undef

section
variable {P : Program} {ops : List Oper} {R : World → World → Prop} {X : Nat → World → World → Prop} {V : Nat → (Nat → Bool) → Value → World → Prop} {a0 : Act} {w0 : World}

theorem Inv.step (hB : okB ops a0.tmps.size = true) (trans : ∀ i a b, R w0 a → X i a b → R w0 b) (stab : ∀ i j L v w w', j ≠ i → L i = false → (∀ o e, ops[i]? = some o → e ∈ o.after → Region.binds .any e = true → L e.on = true) → X i w w' → V j L v w → V j (upd L i) v w')
    {listed : Array Bool} (hls : listed.size = ops.length) {a : Act} {w w' : World} {i : Nat} {o : Oper} {v : Value} (hi : ops[i]? = some o)
    (inv : Inv ops R V a0 w0 listed a w) (hun : listed.getD i true = false) (hr : ∀ e ∈ o.after, Region.binds .any e = true → listed.getD e.on false = true) (hX : X i w w') (hv : V i (upd (Lof listed) i) v w') : Inv ops R V a0 w0 (listed.setIfInBounds i true) (a.put o.dst v) w' := by
  simp only [okB, Bool.and_eq_true] at hB
  obtain ⟨⟨hb1, hb2⟩, hb3⟩ := hB
  have hnd := of_decide_eq_true hb2
  have hilt : i < listed.size := by
    have := (List.getElem?_eq_some_iff.1 hi).1; omega
  refine ⟨by rw [size_put]; exact inv.size, by rw [defers_put]; exact inv.defers, trans i _ _ inv.ext hX, ?_, ?_⟩
  · intro j o' d hj hl hd
    by_cases hij : i = j
    · subst hij
      rw [hi] at hj; cases hj
      have hdlt : d < a.tmps.size := by
        rw [inv.size]
        have := List.all_eq_true.1 hb1 o (List.mem_of_getElem? hi)
        simpa [hd] using this
      rw [hd, getD_put_same hdlt, Lof_set hilt]
      exact hv
    · have hne : o.dst ≠ some d := fun e => hij (nodup_dst hnd hi hj e hd)
      rw [getD_put_ne hne]
      rw [getD_set_ne false hij] at hl
      rw [Lof_set hilt]
      exact stab i j _ _ _ _ (Ne.symm hij) (by unfold Lof; simp [hilt] at hun ⊢; exact hun) (fun o2 e ho2 he hbe => by rw [hi] at ho2; cases ho2; exact hr e he hbe) hX (inv.done j o' d hj hl hd)
  · intro s hs
    have hne : o.dst ≠ some s := fun e => by
      have := hs i o hi e
      simp [hilt] at this
    rw [getD_put_ne hne]
    refine inv.old s fun j o' hj hd => ?_
    have := hs j o' hj hd
    by_cases hij : i = j
    · subst hij
      rw [hi] at hj; cases hj
      exact absurd hd hne
    · rwa [getD_set_ne false hij] at this

theorem knowsAll_of_inv (hB : okB ops a0.tmps.size = true) {listed : Array Bool} {a : Act} {w : World} {i : Nat} {o : Oper} (hi : ops[i]? = some o)
    (inv : Inv ops R V a0 w0 listed a w) (hr : ∀ e ∈ o.after, Region.binds .any e = true → listed.getD e.on false = true) :
    knowsAll ops V (Lof listed) a0 a.eval w o.op.operands.toList := by
  simp only [okB, Bool.and_eq_true] at hB
  have hb3 := hB.2
  have h3 := List.all_eq_true.1 hb3 (o, i) (by
    rw [List.mem_zipIdx_iff_getElem?]; simpa using hi)
  simp only [Bool.and_eq_true] at h3
  obtain ⟨⟨⟨_, hop⟩, _⟩, _⟩ := h3
  rw [← Array.all_toList] at hop
  have hop' := List.all_eq_true.1 hop
  generalize o.op.operands.toList = l at hop'
  induction l with
  | nil => trivial
  | cons x r ih =>
    refine ⟨?_, ih fun y hy => hop' y (List.mem_cons_of_mem _ hy)⟩
    have hx := hop' x List.mem_cons_self
    cases x with
    | tmp t =>
      simp only [knows]
      cases hw : writer ops t with
      | none =>
        simp only
        exact inv.old t fun j o' hj hd => absurd hd (writer_none hw hj)
      | some j =>
        simp only [hw] at hx ⊢
        obtain ⟨o', hj, hd⟩ := writer_some hw
        obtain ⟨e, he, hx⟩ := (any_mem _ _).1 hx
        simp only [Bool.and_eq_true, beq_iff_eq] at hx
        have := hr e he hx.2
        rw [hx.1] at this
        exact inv.done j o' t hj this hd
    | const v => rfl
    | global g => rfl
    | func f => rfl

theorem wpAny_par (Q : Exit → Act → World → Prop) (hB : okB ops a0.tmps.size = true) (refl : ∀ i w, X i w w) (trans : ∀ i a b, R w0 a → X i a b → R w0 b)
    (stab : ∀ i j L v w w', j ≠ i → L i = false → (∀ o e, ops[i]? = some o → e ∈ o.after → Region.binds .any e = true → L e.on = true) → X i w w' → V j L v w → V j (upd L i) v w') (hg : goals P ops R X V a0 w0 ops 0)
    (fin : ∀ a w, Inv ops R V a0 w0 (Array.replicate ops.length true) a w → Q .normal a w) :
    ∀ (fuel : Nat) (listed : Array Bool) (a : Act) (w : World), listed.size = ops.length → (listed.toList.filter (· == false)).length ≤ fuel →
      Inv ops R V a0 w0 listed a w → wpAny P .any ops.toArray Q fuel listed a w := by
  have hB' := hB
  simp only [okB, Bool.and_eq_true] at hB'
  have hb3 := hB'.2
  have ended : ∀ (listed : Array Bool) (a : Act) (w : World), listed.size = ops.length → Inv ops R V a0 w0 listed a w → Region.ready .any ops.toArray listed = [] → Q .normal a w := by
    intro listed a w hls inv hnil
    have all : ∀ n i, i ≤ n → i < ops.length → listed.getD i false = true := by
      intro n
      induction n with
      | zero =>
        intro i hi hlt
        obtain rfl : i = 0 := by omega
        cases hl : listed.getD 0 false with
        | true => rfl
        | false =>
          exfalso
          have : 0 ∈ Region.ready .any ops.toArray listed := by
            rw [mem_ready]
            refine ⟨by simp [hls ▸ hlt] at hl ⊢; exact hl, ops[0], by simp [hlt], fun e he hb => ?_⟩
            have h3 := List.all_eq_true.1 hb3 (ops[0], 0) (by rw [List.mem_zipIdx_iff_getElem?]; simp [hlt])
            simp only [Bool.and_eq_true] at h3
            have := (Array.all_eq_true_iff_forall_mem.1 h3.1.1.1) e he
            simp [hb] at this
          rw [hnil] at this; cases this
      | succ n ih =>
        intro i hi hlt
        cases hl : listed.getD i false with
        | true => rfl
        | false =>
          exfalso
          have : i ∈ Region.ready .any ops.toArray listed := by
            rw [mem_ready]
            refine ⟨by simp [hls ▸ hlt] at hl ⊢; exact hl, ops[i], by simp [hlt], fun e he hb => ?_⟩
            have h3 := List.all_eq_true.1 hb3 (ops[i], i) (by rw [List.mem_zipIdx_iff_getElem?]; simp [hlt])
            simp only [Bool.and_eq_true] at h3
            have := (Array.all_eq_true_iff_forall_mem.1 h3.1.1.1) e he
            simp [hb] at this
            exact ih e.on (by omega) (by omega)
          rw [hnil] at this; cases this
    have he : listed = Array.replicate ops.length true := by
      apply Array.ext
      · simp [hls]
      · intro i h1 h2
        have := all i i (Nat.le_refl _) (by simpa using h2)
        simp [h1] at this
        simp [this]
    subst he
    exact fin a w inv
  intro fuel
  induction fuel with
  | zero =>
    intro listed a w hls hf inv
    have hnil : Region.ready .any ops.toArray listed = [] := by
      rw [List.eq_nil_iff_forall_not_mem]
      intro i hi
      have h0 := (mem_ready.1 hi).1
      have hlt : i < listed.size := by
        rcases Nat.lt_or_ge i listed.size with h' | h'
        · exact h'
        · simp [Array.getElem?_eq_none h'] at h0
      simp [hlt] at h0
      have : false ∈ listed.toList.filter (· == false) := by
        rw [List.mem_filter]
        exact ⟨by rw [← h0]; exact Array.mem_toList_iff.2 (Array.getElem_mem hlt), rfl⟩
      have := List.length_pos_of_mem this
      omega
    exact ⟨hnil, ended listed a w hls inv hnil⟩
  | succ fuel ih =>
    intro listed a w hls hf inv
    refine ⟨ended listed a w hls inv, fun i hi => ?_⟩
    obtain ⟨hun, o, ho, hr⟩ := mem_ready.1 hi
    have ho' : ops[i]? = some o := by simpa using ho
    have hlt : i < listed.size := by
      rcases Nat.lt_or_ge i listed.size with h' | h'
      · exact h'
      · simp [Array.getElem?_eq_none h'] at hun
    have hcount : ((listed.setIfInBounds i true).toList.filter (· == false)).length ≤ fuel := by
      have h1 : listed[i] = false := by simpa [hlt] using hun
      have : ∀ (l : List Bool) (k : Nat) (hk : k < l.length), l[k] = false → ((l.set k true).filter (· == false)).length + 1 = (l.filter (· == false)).length := by
        intro l
        induction l with
        | nil => intro k hk; simp at hk
        | cons b l ihl =>
          intro k hk hb
          match k with
          | 0 => simp at hb; subst hb; simp
          | k + 1 =>
            simp at hb
            have := ihl k (by simpa using hk) hb
            rw [List.set_cons_succ, List.filter_cons, List.filter_cons]
            split
            · rw [List.length_cons, List.length_cons]; omega
            · exact this
      have := this listed.toList i (by simpa using hlt) (by simpa using h1)
      simp only [Array.toList_setIfInBounds]
      omega
    have hg' := goals_at ops 0 hg i o ho'
    simp only [Nat.zero_add] at hg'
    have next : ∀ v w', X i w w' → V i (upd (Lof listed) i) v w' → wpAny P .any ops.toArray Q fuel (listed.setIfInBounds i true) (a.put o.dst v) w' := fun v w' hX hv =>
      ih _ _ _ (by simpa using hls) hcount (inv.step hB trans stab hls ho' hun hr hX hv)
    have hLi : Lof listed i = false := by unfold Lof; simp [hlt] at hun ⊢; exact hun
    unfold wpOp
    simp only [ho]
    have h3 := List.all_eq_true.1 hb3 (o, i) (by rw [List.mem_zipIdx_iff_getElem?]; simpa using ho')
    simp only [Bool.and_eq_true] at h3
    obtain ⟨⟨_, hgd⟩, _⟩ := h3
    split
    · rename_i hw
      left
      refine wp_of_val (hg'.2 (Lof listed) a.eval w inv.ext hLi ?_ (knowsAll_of_inv hB ho' inv hr)) fun v w' h => next v w' h.1 h.2
      unfold guardHolds
      unfold Region.wanted at hw
      cases hgu : o.guard with
      | none => trivial
      | some gw =>
        obtain ⟨g, want⟩ := gw
        simp only [hgu] at hw hgd ⊢
        simp only [Bool.and_eq_true] at hgd
        obtain ⟨e, he, hx⟩ := (any_mem _ _).1 hgd.1
        simp only [Bool.and_eq_true, beq_iff_eq] at hx
        obtain ⟨d, hd⟩ := Option.isSome_iff_exists.1 hgd.2
        cases hog : ops[g]? with
        | none => simp [hog] at hd
        | some og =>
          simp [hog] at hd
          have hl := hr e he hx.2
          rw [hx.1] at hl
          have hV := inv.done g og d hog hl hd
          unfold yielded at hw
          simp [hog, hd] at hw
          have hds : d < a.tmps.size := by
            have hb1 := hB'.1.1
            have := List.all_eq_true.1 hb1 og (List.mem_of_getElem? hog)
            rw [inv.size]
            simpa [hd] using this
          simp [hds] at hw
          have hval : a.tmps.getD d undef = .bool want := by
            simp [hds]
            split at hw
            · rename_i b hb
              have e2 : a.tmps[d] = .bool b := Option.some.inj hb
              rw [e2]
              simp only [Option.some.injEq] at hw
              rw [hw]
            · simp at hw
          rw [hval] at hV
          exact hV
    · rename_i hw
      refine next undef w (refl i w) ?_
      have hgf := hg'.1 (Lof listed) w inv.ext
      unfold guardFails at hgf
      unfold Region.wanted at hw
      cases hgu : o.guard with
      | none => simp [hgu] at hw
      | some gw =>
        obtain ⟨g, want⟩ := gw
        simp only [hgu] at hw hgd hgf
        simp only [Bool.and_eq_true] at hgd
        obtain ⟨e, he, hx⟩ := (any_mem _ _).1 hgd.1
        simp only [Bool.and_eq_true, beq_iff_eq] at hx
        obtain ⟨d, hd⟩ := Option.isSome_iff_exists.1 hgd.2
        cases hog : ops[g]? with
        | none => simp [hog] at hd
        | some og =>
          simp [hog] at hd
          have hl := hr e he hx.2
          rw [hx.1] at hl
          have hV := inv.done g og d hog hl hd
          rcases hgf _ hV with h | h
          · exfalso
            apply hw
            unfold yielded
            have hds : d < a.tmps.size := by
              have hb1 := hB'.1.1
              have := List.all_eq_true.1 hb1 og (List.mem_of_getElem? hog)
              rw [inv.size]
              simpa [hd] using this
            simp [hds] at h
            simp [hog, hd, hds, h]
          · exact h

/-- The frame behind the region: the old one, the region's slots written anew. -/
theorem Inv.act {listed : Array Bool} {a : Act} {w : World} (inv : Inv ops R V a0 w0 listed a w) : a = putAll a0 a (ops.filterMap (·.dst)) := by
  have h1 : a.tmps = (putAll a0 a (ops.filterMap (·.dst))).tmps := by
    apply Array.ext
    · rw [putAll_size]; exact inv.size
    · intro i hi hi2
      have h0 : i < a0.tmps.size := by rw [← inv.size]; exact hi
      have := putAll_in a i (ops.filterMap (·.dst)) a0 h0 (by
        by_cases hm : i ∈ ops.filterMap (·.dst)
        · exact .inl hm
        · right
          refine (inv.old i fun j o hj hd => ?_).symm
          exact absurd (List.mem_filterMap.2 ⟨o, List.mem_of_getElem? hj, hd⟩) hm)
      simp only [Array.getD_eq_getD_getElem?, Array.getElem?_eq_getElem hi, Array.getElem?_eq_getElem hi2, Option.getD_some] at this
      exact this.symm
  have h2 : a.defers = (putAll a0 a (ops.filterMap (·.dst))).defers := by rw [putAll_defers]; exact inv.defers
  cases a
  simp only at h1 h2
  generalize putAll a0 _ _ = b at *
  cases b
  simp_all

/-- **The rule.** Behind the region: each slot that it writes holds a value of which its operation's specification holds, in a world that has grown. -/
theorem wp_region_par {id : Nat} {Q : Exit → Act → World → Prop} {l : List Oper} (hm : P.follows .mixedOrders = true) {a0 : Act} {w0 : World} (R : World → World → Prop) (X : Nat → World → World → Prop) (V : Nat → (Nat → Bool) → Value → World → Prop)
    (hB : okB l a0.tmps.size = true) (refl : ∀ i w, X i w w) (trans : ∀ i a b, R w0 a → X i a b → R w0 b) (draw : R w0 { w0 with drawn := w0.drawn + 1 })
    (stab : ∀ i j L v w w', j ≠ i → L i = false → (∀ o e, l[i]? = some o → e ∈ o.after → Region.binds .any e = true → L e.on = true) → X i w w' → V j L v w → V j (upd L i) v w') (hg : goals P l R X V a0 w0 l 0)
    (fin : ∀ a w, Inv l R V a0 w0 (Array.replicate l.length true) a w → Q .normal (putAll a0 a (l.filterMap (·.dst))) w) :
    (Code.region id l.toArray true).wp P Q a0 w0 := by
  refine wp_region_any hm ?_
  refine wpAny_par Q hB refl trans stab hg (fun a w inv => by have := fin a w inv; rw [← inv.act] at this; exact this) _ _ _ _ (by simp) (by simp) ⟨rfl, rfl, draw, ?_, fun _ _ => rfl⟩
  intro j o d hj hl
  simp [Array.getElem?_replicate] at hl
  split at hl <;> simp_all

end

def VLB (L : List ((Nat → Bool) → Value → World → Prop)) (i : Nat) : (Nat → Bool) → Value → World → Prop := L.getD i fun _ _ _ => True
def EQ (e : Value) : (Nat → Bool) → Value → World → Prop := fun _ v _ => v = e
def XI (i0 B : Nat) (i : Nat) : World → World → Prop := if i = i0 then Below B else Tum.Ext
theorem stab_mk {ops : List Oper} {VS : List ((Nat → Bool) → Value → World → Prop)} {i0 B : Nat} (d0 : Nat) (hd : (((ops[i0]?).map (·.after.any fun e => e.on == d0 && Region.binds .any e)).getD false) = true)
    (h1 : ∀ p ∈ VS, ∀ i L v w w', Tum.Ext w w' → p L v w → p (upd L i) v w')
    (h2 : ∀ p ∈ VS.set i0 (fun _ _ _ => True), ∀ L v w w', (L d0 = true ∧ L i0 = false) → Below B w w' → p L v w → p (upd L i0) v w') :
    ∀ i j L v w w', j ≠ i → L i = false → (∀ o e, ops[i]? = some o → e ∈ o.after → Region.binds .any e = true → L e.on = true) → XI i0 B i w w' → VLB VS j L v w → VLB VS j (upd L i) v w' := by
  intro i j L v w w' hne hLi hdep hX hv
  unfold VLB at *
  rw [List.getD_eq_getElem?_getD] at *
  cases hj : VS[j]? with
  | none => simp
  | some p =>
    simp [hj] at hv ⊢
    unfold XI at hX
    split at hX
    · rename_i e
      subst e
      have hL : L d0 = true := by
        cases ho : ops[i]? with
        | none => simp [ho] at hd
        | some o =>
          simp only [ho, Option.map_some, Option.getD_some] at hd
          obtain ⟨e, he, hx⟩ := (any_mem _ _).1 hd
          simp only [Bool.and_eq_true, beq_iff_eq] at hx
          rw [← hx.1]; exact hdep o e ho he hx.2
      refine h2 p ?_ L v w w' ⟨hL, hLi⟩ hX hv
      apply List.mem_of_getElem? (i := j)
      rw [List.getElem?_set_ne (Ne.symm hne)]; exact hj
    · exact h1 p (List.mem_of_getElem? hj) i L v w w' hX hv
theorem XI_refl (i0 B i : Nat) (w : World) : XI i0 B i w w := by
  unfold XI; split
  · exact Below.refl _ _
  · exact Tum.Ext.refl _
theorem XI_trans {i0 : Nat} {w0 : World} (i : Nat) (a b : World) (h : Tum.Ext w0 a) (k : XI i0 w0.heap.size i a b) : Tum.Ext w0 b := by
  unfold XI at k; split at k
  · exact Below.trans h k
  · exact h.trans k
theorem XI_same {i0 B : Nat} {w w' : World} (h : Below B w w') : XI i0 B i0 w w' := by unfold XI; rw [if_pos rfl]; exact h
theorem XI_other {i0 B i : Nat} {w w' : World} (hne : i ≠ i0) (h : Tum.Ext w w') : XI i0 B i w w' := by unfold XI; rw [if_neg hne]; exact h
end Go.ParB
