/- A region that draws its order, whose operations each have a specification that holds in every later world: one obligation an operation, whatever the order. -/
import Derived.WalkKit
import Derived.Orders
namespace Go.Par
open Go.RowKit

/-- What is asked of one operation's outcome: a value, kept by K. -/
def vUpon (P : Program) (K : Value → World → Prop) : Result Next → Prop
  | .ok (.value v) w' => K v w'
  | .ok .skip w' => K undef w'
  | .ok (.enter f args) w' => Calls P f args w' fun e w'' => ∃ v, e = .returned v ∧ K v w''
  | _ => False

def val (P : Program) (o : Oper) (ρ : Operand → Value) (w : World) (K : Value → World → Prop) : Prop := vUpon P K ((execOp ρ o).run P w)

theorem wp_of_val {P : Program} {o : Oper} {a : Act} {w : World} {K : Value → World → Prop} {next : Act → World → Prop} {Q : Exit → Act → World → Prop}
    (h : val P o a.eval w K) (hk : ∀ v w', K v w' → next (a.put o.dst v) w') : o.wp P a w next Q := by
  unfold val at h
  unfold Oper.wp
  generalize (execOp a.eval o).run P w = r at *
  cases r with
  | ok n w' =>
    cases n <;> simp only [vUpon] at h <;> simp only [Oper.upon]
    case value u => exact hk _ _ h
    case skip => exact hk _ _ h
    case enter f args => exact h.mono fun e w'' ⟨v, he, hv⟩ => by subst he; exact hk _ _ hv
  | halt x w' => simp only [vUpon] at h

/-- Which operation of the region writes slot t. -/
def writer (ops : List Oper) (t : Nat) : Option Nat := ops.findIdx? fun o => o.dst == some t

/-- What is known of an operand's value when operation i runs. -/
def knows (ops : List Oper) (V : Nat → Value → World → Prop) (a0 : Act) (ρ : Operand → Value) (w : World) : Operand → Prop
  | .tmp t => match writer ops t with
    | some j => V j (ρ (.tmp t)) w
    | none => ρ (.tmp t) = a0.tmps.getD t undef
  | x => ρ x = a0.eval x

def knowsAll (ops : List Oper) (V : Nat → Value → World → Prop) (a0 : Act) (ρ : Operand → Value) (w : World) : List Operand → Prop
  | [] => True
  | x :: r => knows ops V a0 ρ w x ∧ knowsAll ops V a0 ρ w r

def guardHolds (V : Nat → Value → World → Prop) (w : World) (o : Oper) : Prop :=
  match o.guard with
  | none => True
  | some (g, want) => V g (.bool want) w

def guardFails (V : Nat → Value → World → Prop) (w : World) (o : Oper) (i : Nat) : Prop :=
  match o.guard with
  | none => True
  | some (g, want) => ∀ u, V g u w → u = .bool want ∨ V i undef w

def goals (P : Program) (ops : List Oper) (X : World → World → Prop) (V : Nat → Value → World → Prop) (a0 : Act) (w0 : World) : List Oper → Nat → Prop
  | [], _ => True
  | o :: r, i =>
    ((∀ w, X w0 w → guardFails V w o i) ∧
     (∀ (ρ : Operand → Value) (w : World), X w0 w → guardHolds V w o → knowsAll ops V a0 ρ w o.op.operands.toList → val P o ρ w fun v w' => X w w' ∧ V i v w')) ∧
    goals P ops X V a0 w0 r (i + 1)

theorem goals_at {P : Program} {ops : List Oper} {X : World → World → Prop} {V : Nat → Value → World → Prop} {a0 : Act} {w0 : World} :
    ∀ (l : List Oper) (k : Nat), goals P ops X V a0 w0 l k → ∀ i o, l[i]? = some o →
      (∀ w, X w0 w → guardFails V w o (k + i)) ∧ (∀ (ρ : Operand → Value) (w : World), X w0 w → guardHolds V w o → knowsAll ops V a0 ρ w o.op.operands.toList → val P o ρ w fun v w' => X w w' ∧ V (k + i) v w')
  | [], _, _, i, o, h => by simp at h
  | o :: r, k, h, 0, o', ho => by
    simp at ho; subst ho; exact h.1
  | o :: r, k, h, i + 1, o', ho => by
    have := goals_at r (k + 1) h.2 i o' (by simpa using ho)
    rw [show k + 1 + i = k + (i + 1) by omega] at this
    exact this

/-- The slots that the operations write, each once, inside the frame; each operation waits for the writers of what it looks at; edges go back. -/
def okB (ops : List Oper) (n : Nat) : Bool :=
  (ops.all fun o => match o.dst with | some d => decide (d < n) | none => true) &&
  decide ((ops.filterMap (·.dst)).Nodup) &&
  ops.zipIdx.all fun (o, i) =>
    (o.after.all fun e => !Region.binds .any e || decide (e.on < i)) &&
    (o.op.operands.all fun x => match x with
      | .tmp t => (match writer ops t with | some j => o.after.any (fun e => e.on == j && Region.binds .any e) | none => true)
      | _ => true) &&
    (match o.guard with
      | some (g, _) => o.after.any (fun e => e.on == g && Region.binds .any e) && ((ops[g]?).bind (·.dst)).isSome
      | none => true) &&
    (match o.op with | .select .. => false | _ => true)

structure Inv (ops : List Oper) (X : World → World → Prop) (V : Nat → Value → World → Prop) (a0 : Act) (w0 : World) (listed : Array Bool) (a : Act) (w : World) : Prop where
  size : a.tmps.size = a0.tmps.size
  defers : a.defers = a0.defers
  ext : X w0 w
  done : ∀ j o d, ops[j]? = some o → listed.getD j false = true → o.dst = some d → V j (a.tmps.getD d undef) w
  old : ∀ s, (∀ j o, ops[j]? = some o → o.dst = some s → listed.getD j false = false) → a.tmps.getD s undef = a0.tmps.getD s undef

theorem any_mem {α : Type} (a : Array α) (p : α → Bool) : a.any p = true ↔ ∃ x, x ∈ a ∧ p x = true := by
  rw [← Array.any_toList, List.any_eq_true]
  constructor <;> rintro ⟨x, h1, h2⟩ <;> exact ⟨x, by simpa using h1, h2⟩

theorem nodup_dst {ops : List Oper} (h : (ops.filterMap (·.dst)).Nodup) {i j : Nat} {o o' : Oper} {d : Nat} (hi : ops[i]? = some o) (hj : ops[j]? = some o')
    (h1 : o.dst = some d) (h2 : o'.dst = some d) : i = j := by
  induction ops generalizing i j with
  | nil => simp at hi
  | cons x r ih =>
    have hr : (r.filterMap (·.dst)).Nodup := by
      rw [List.filterMap_cons] at h
      split at h
      · exact h
      · exact (List.nodup_cons.1 h).2
    have mem : ∀ (k : Nat) (y : Oper), r[k]? = some y → y.dst = some d → d ∈ r.filterMap (·.dst) := fun k y hk hy => List.mem_filterMap.2 ⟨y, List.mem_of_getElem? hk, hy⟩
    match i, j with
    | 0, 0 => rfl
    | 0, j + 1 =>
      simp at hi hj; subst hi
      rw [List.filterMap_cons, h1] at h
      exact absurd (mem j o' hj h2) (List.nodup_cons.1 h).1
    | i + 1, 0 =>
      simp at hi hj; subst hj
      rw [List.filterMap_cons, h2] at h
      exact absurd (mem i o hi h1) (List.nodup_cons.1 h).1
    | i + 1, j + 1 =>
      simp at hi hj
      rw [ih hr hi hj]

theorem writer_some {ops : List Oper} {t j : Nat} (h : writer ops t = some j) : ∃ o, ops[j]? = some o ∧ o.dst = some t := by
  unfold writer at h
  rw [List.findIdx?_eq_some_iff_getElem] at h
  obtain ⟨hlt, h1, _⟩ := h
  exact ⟨ops[j], by simp [hlt], by simpa using h1⟩

theorem writer_none {ops : List Oper} {t : Nat} (h : writer ops t = none) {j : Nat} {o : Oper} (hj : ops[j]? = some o) : o.dst ≠ some t := by
  unfold writer at h
  rw [List.findIdx?_eq_none_iff] at h
  have := h o (List.mem_of_getElem? hj)
  simpa using this

theorem getD_put_same {a : Act} {d : Nat} {v : Value} (h : d < a.tmps.size) : (a.put (some d) v).tmps.getD d undef = v := by
  simp [Act.put, h]

theorem getD_put_ne {a : Act} {dst : Option Nat} {s : Nat} {v : Value} (h : dst ≠ some s) : (a.put dst v).tmps.getD s undef = a.tmps.getD s undef := by
  cases dst with
  | none => rfl
  | some d =>
    have : d ≠ s := fun e => h (by rw [e])
    simp [Act.put, Array.getElem?_setIfInBounds_ne this]

theorem size_put (a : Act) (dst : Option Nat) (v : Value) : (a.put dst v).tmps.size = a.tmps.size := by cases dst <;> simp [Act.put]
theorem defers_put (a : Act) (dst : Option Nat) (v : Value) : (a.put dst v).defers = a.defers := by cases dst <;> simp [Act.put]

section
variable {P : Program} {ops : List Oper} {X : World → World → Prop} {V : Nat → Value → World → Prop} {a0 : Act} {w0 : World}

theorem Inv.step (hB : okB ops a0.tmps.size = true) (trans : ∀ a b c, X a b → X b c → X a c) (stab : ∀ i v w w', X w w' → V i v w → V i v w')
    {listed : Array Bool} (hls : listed.size = ops.length) {a : Act} {w w' : World} {i : Nat} {o : Oper} {v : Value} (hi : ops[i]? = some o)
    (inv : Inv ops X V a0 w0 listed a w) (hX : X w w') (hv : V i v w') : Inv ops X V a0 w0 (listed.setIfInBounds i true) (a.put o.dst v) w' := by
  simp only [okB, Bool.and_eq_true] at hB
  obtain ⟨⟨hb1, hb2⟩, hb3⟩ := hB
  have hnd := of_decide_eq_true hb2
  have hilt : i < listed.size := by
    have := (List.getElem?_eq_some_iff.1 hi).1; omega
  refine ⟨by rw [size_put]; exact inv.size, by rw [defers_put]; exact inv.defers, trans _ _ _ inv.ext hX, ?_, ?_⟩
  · intro j o' d hj hl hd
    by_cases hij : i = j
    · subst hij
      rw [hi] at hj; cases hj
      have hdlt : d < a.tmps.size := by
        rw [inv.size]
        have := List.all_eq_true.1 hb1 o (List.mem_of_getElem? hi)
        simpa [hd] using this
      rw [hd, getD_put_same hdlt]
      exact hv
    · have hne : o.dst ≠ some d := fun e => hij (nodup_dst hnd hi hj e hd)
      rw [getD_put_ne hne]
      rw [getD_set_ne false hij] at hl
      exact stab _ _ _ _ hX (inv.done j o' d hj hl hd)
  · intro s hs
    have hne : o.dst ≠ some s := fun e => by
      have := hs i o hi e
      simp [hilt] at this
    rw [getD_put_ne hne]
    refine inv.old s fun j o' hj hd => ?_
    have := hs j o' hj hd
    by_cases hij : i = j
    · subst hij
      rw [hi] at hj; cases hj
      exact absurd hd hne
    · rwa [getD_set_ne false hij] at this

theorem knowsAll_of_inv (hB : okB ops a0.tmps.size = true) {listed : Array Bool} {a : Act} {w : World} {i : Nat} {o : Oper} (hi : ops[i]? = some o)
    (inv : Inv ops X V a0 w0 listed a w) (hr : ∀ e ∈ o.after, Region.binds .any e = true → listed.getD e.on false = true) :
    knowsAll ops V a0 a.eval w o.op.operands.toList := by
  simp only [okB, Bool.and_eq_true] at hB
  have hb3 := hB.2
  have h3 := List.all_eq_true.1 hb3 (o, i) (by
    rw [List.mem_zipIdx_iff_getElem?]; simpa using hi)
  simp only [Bool.and_eq_true] at h3
  obtain ⟨⟨⟨_, hop⟩, _⟩, _⟩ := h3
  rw [← Array.all_toList] at hop
  have hop' := List.all_eq_true.1 hop
  generalize o.op.operands.toList = l at hop'
  induction l with
  | nil => trivial
  | cons x r ih =>
    refine ⟨?_, ih fun y hy => hop' y (List.mem_cons_of_mem _ hy)⟩
    have hx := hop' x List.mem_cons_self
    cases x with
    | tmp t =>
      simp only [knows]
      cases hw : writer ops t with
      | none =>
        simp only
        exact inv.old t fun j o' hj hd => absurd hd (writer_none hw hj)
      | some j =>
        simp only [hw] at hx ⊢
        obtain ⟨o', hj, hd⟩ := writer_some hw
        obtain ⟨e, he, hx⟩ := (any_mem _ _).1 hx
        simp only [Bool.and_eq_true, beq_iff_eq] at hx
        have := hr e he hx.2
        rw [hx.1] at this
        exact inv.done j o' t hj this hd
    | const v => rfl
    | global g => rfl
    | func f => rfl

theorem wpAny_par (Q : Exit → Act → World → Prop) (hB : okB ops a0.tmps.size = true) (refl : ∀ w, X w w) (trans : ∀ a b c, X a b → X b c → X a c)
    (stab : ∀ i v w w', X w w' → V i v w → V i v w') (hg : goals P ops X V a0 w0 ops 0)
    (fin : ∀ a w, Inv ops X V a0 w0 (Array.replicate ops.length true) a w → Q .normal a w) :
    ∀ (fuel : Nat) (listed : Array Bool) (a : Act) (w : World), listed.size = ops.length → (listed.toList.filter (· == false)).length ≤ fuel →
      Inv ops X V a0 w0 listed a w → wpAny P .any ops.toArray Q fuel listed a w := by
  have hB' := hB
  simp only [okB, Bool.and_eq_true] at hB'
  have hb3 := hB'.2
  have ended : ∀ (listed : Array Bool) (a : Act) (w : World), listed.size = ops.length → Inv ops X V a0 w0 listed a w → Region.ready .any ops.toArray listed = [] → Q .normal a w := by
    intro listed a w hls inv hnil
    have all : ∀ n i, i ≤ n → i < ops.length → listed.getD i false = true := by
      intro n
      induction n with
      | zero =>
        intro i hi hlt
        obtain rfl : i = 0 := by omega
        cases hl : listed.getD 0 false with
        | true => rfl
        | false =>
          exfalso
          have : 0 ∈ Region.ready .any ops.toArray listed := by
            rw [mem_ready]
            refine ⟨by simp [hls ▸ hlt] at hl ⊢; exact hl, ops[0], by simp [hlt], fun e he hb => ?_⟩
            have h3 := List.all_eq_true.1 hb3 (ops[0], 0) (by rw [List.mem_zipIdx_iff_getElem?]; simp [hlt])
            simp only [Bool.and_eq_true] at h3
            have := (Array.all_eq_true_iff_forall_mem.1 h3.1.1.1) e he
            simp [hb] at this
          rw [hnil] at this; cases this
      | succ n ih =>
        intro i hi hlt
        cases hl : listed.getD i false with
        | true => rfl
        | false =>
          exfalso
          have : i ∈ Region.ready .any ops.toArray listed := by
            rw [mem_ready]
            refine ⟨by simp [hls ▸ hlt] at hl ⊢; exact hl, ops[i], by simp [hlt], fun e he hb => ?_⟩
            have h3 := List.all_eq_true.1 hb3 (ops[i], i) (by rw [List.mem_zipIdx_iff_getElem?]; simp [hlt])
            simp only [Bool.and_eq_true] at h3
            have := (Array.all_eq_true_iff_forall_mem.1 h3.1.1.1) e he
            simp [hb] at this
            exact ih e.on (by omega) (by omega)
          rw [hnil] at this; cases this
    have he : listed = Array.replicate ops.length true := by
      apply Array.ext
      · simp [hls]
      · intro i h1 h2
        have := all i i (Nat.le_refl _) (by simpa using h2)
        simp [h1] at this
        simp [this]
    subst he
    exact fin a w inv
  intro fuel
  induction fuel with
  | zero =>
    intro listed a w hls hf inv
    have hnil : Region.ready .any ops.toArray listed = [] := by
      rw [List.eq_nil_iff_forall_not_mem]
      intro i hi
      have h0 := (mem_ready.1 hi).1
      have hlt : i < listed.size := by
        rcases Nat.lt_or_ge i listed.size with h' | h'
        · exact h'
        · simp [Array.getElem?_eq_none h'] at h0
      simp [hlt] at h0
      have : false ∈ listed.toList.filter (· == false) := by
        rw [List.mem_filter]
        exact ⟨by rw [← h0]; exact Array.mem_toList_iff.2 (Array.getElem_mem hlt), rfl⟩
      have := List.length_pos_of_mem this
      omega
    exact ⟨hnil, ended listed a w hls inv hnil⟩
  | succ fuel ih =>
    intro listed a w hls hf inv
    refine ⟨ended listed a w hls inv, fun i hi => ?_⟩
    obtain ⟨hun, o, ho, hr⟩ := mem_ready.1 hi
    have ho' : ops[i]? = some o := by simpa using ho
    have hlt : i < listed.size := by
      rcases Nat.lt_or_ge i listed.size with h' | h'
      · exact h'
      · simp [Array.getElem?_eq_none h'] at hun
    have hcount : ((listed.setIfInBounds i true).toList.filter (· == false)).length ≤ fuel := by
      have h1 : listed[i] = false := by simpa [hlt] using hun
      have : ∀ (l : List Bool) (k : Nat) (hk : k < l.length), l[k] = false → ((l.set k true).filter (· == false)).length + 1 = (l.filter (· == false)).length := by
        intro l
        induction l with
        | nil => intro k hk; simp at hk
        | cons b l ihl =>
          intro k hk hb
          match k with
          | 0 => simp at hb; subst hb; simp
          | k + 1 =>
            simp at hb
            have := ihl k (by simpa using hk) hb
            rw [List.set_cons_succ, List.filter_cons, List.filter_cons]
            split
            · rw [List.length_cons, List.length_cons]; omega
            · exact this
      have := this listed.toList i (by simpa using hlt) (by simpa using h1)
      simp only [Array.toList_setIfInBounds]
      omega
    have hg' := goals_at ops 0 hg i o ho'
    simp only [Nat.zero_add] at hg'
    have next : ∀ v w', X w w' → V i v w' → wpAny P .any ops.toArray Q fuel (listed.setIfInBounds i true) (a.put o.dst v) w' := fun v w' hX hv =>
      ih _ _ _ (by simpa using hls) hcount (inv.step hB trans stab hls ho' hX hv)
    unfold wpOp
    simp only [ho]
    have h3 := List.all_eq_true.1 hb3 (o, i) (by rw [List.mem_zipIdx_iff_getElem?]; simpa using ho')
    simp only [Bool.and_eq_true] at h3
    obtain ⟨⟨_, hgd⟩, _⟩ := h3
    split
    · rename_i hw
      left
      refine wp_of_val (hg'.2 a.eval w inv.ext ?_ (knowsAll_of_inv hB ho' inv hr)) fun v w' h => next v w' h.1 h.2
      unfold guardHolds
      unfold Region.wanted at hw
      cases hgu : o.guard with
      | none => trivial
      | some gw =>
        obtain ⟨g, want⟩ := gw
        simp only [hgu] at hw hgd ⊢
        simp only [Bool.and_eq_true] at hgd
        obtain ⟨e, he, hx⟩ := (any_mem _ _).1 hgd.1
        simp only [Bool.and_eq_true, beq_iff_eq] at hx
        obtain ⟨d, hd⟩ := Option.isSome_iff_exists.1 hgd.2
        cases hog : ops[g]? with
        | none => simp [hog] at hd
        | some og =>
          simp [hog] at hd
          have hl := hr e he hx.2
          rw [hx.1] at hl
          have hV := inv.done g og d hog hl hd
          unfold yielded at hw
          simp [hog, hd] at hw
          have hds : d < a.tmps.size := by
            have hb1 := hB'.1.1
            have := List.all_eq_true.1 hb1 og (List.mem_of_getElem? hog)
            rw [inv.size]
            simpa [hd] using this
          simp [hds] at hw
          have hval : a.tmps.getD d undef = .bool want := by
            simp [hds]
            split at hw
            · rename_i b hb
              have e2 : a.tmps[d] = .bool b := Option.some.inj hb
              rw [e2]
              simp only [Option.some.injEq] at hw
              rw [hw]
            · simp at hw
          rw [hval] at hV
          exact hV
    · rename_i hw
      refine next undef w (refl w) ?_
      have hgf := hg'.1 w inv.ext
      unfold guardFails at hgf
      unfold Region.wanted at hw
      cases hgu : o.guard with
      | none => simp [hgu] at hw
      | some gw =>
        obtain ⟨g, want⟩ := gw
        simp only [hgu] at hw hgd hgf
        simp only [Bool.and_eq_true] at hgd
        obtain ⟨e, he, hx⟩ := (any_mem _ _).1 hgd.1
        simp only [Bool.and_eq_true, beq_iff_eq] at hx
        obtain ⟨d, hd⟩ := Option.isSome_iff_exists.1 hgd.2
        cases hog : ops[g]? with
        | none => simp [hog] at hd
        | some og =>
          simp [hog] at hd
          have hl := hr e he hx.2
          rw [hx.1] at hl
          have hV := inv.done g og d hog hl hd
          rcases hgf _ hV with h | h
          · exfalso
            apply hw
            unfold yielded
            have hds : d < a.tmps.size := by
              have hb1 := hB'.1.1
              have := List.all_eq_true.1 hb1 og (List.mem_of_getElem? hog)
              rw [inv.size]
              simpa [hd] using this
            simp [hds] at h
            simp [hog, hd, hds, h]
          · exact h

def putAll (a : Act) (src : Act) : List Nat → Act
  | [] => a
  | d :: r => putAll (a.put (some d) (src.tmps.getD d undef)) src r
theorem putAll_size (src : Act) : ∀ (L : List Nat) (a : Act), (putAll a src L).tmps.size = a.tmps.size
  | [], _ => rfl
  | d :: r, a => by rw [putAll, putAll_size src r, size_put]
theorem putAll_defers (src : Act) : ∀ (L : List Nat) (a : Act), (putAll a src L).defers = a.defers
  | [], _ => rfl
  | d :: r, a => by rw [putAll, putAll_defers src r, defers_put]
theorem putAll_in (src : Act) (s : Nat) : ∀ (L : List Nat) (a : Act), s < a.tmps.size → (s ∈ L ∨ a.tmps.getD s undef = src.tmps.getD s undef) → (putAll a src L).tmps.getD s undef = src.tmps.getD s undef
  | [], a, _, h => by simpa [putAll] using h
  | d :: r, a, hs, h => by
    rw [putAll]
    refine putAll_in src s r _ (by rw [size_put]; exact hs) ?_
    by_cases e : d = s
    · right; subst e; exact getD_put_same hs
    · rcases h with h | h
      · left
        rcases List.mem_cons.1 h with h | h
        · exact absurd h.symm e
        · exact h
      · right
        rw [getD_put_ne (by simpa using e)]; exact h

/-- The frame behind the region: the old one, the region's slots written anew. -/
theorem Inv.act {listed : Array Bool} {a : Act} {w : World} (inv : Inv ops X V a0 w0 listed a w) : a = putAll a0 a (ops.filterMap (·.dst)) := by
  have h1 : a.tmps = (putAll a0 a (ops.filterMap (·.dst))).tmps := by
    apply Array.ext
    · rw [putAll_size]; exact inv.size
    · intro i hi hi2
      have h0 : i < a0.tmps.size := by rw [← inv.size]; exact hi
      have := putAll_in a i (ops.filterMap (·.dst)) a0 h0 (by
        by_cases hm : i ∈ ops.filterMap (·.dst)
        · exact .inl hm
        · right
          refine (inv.old i fun j o hj hd => ?_).symm
          exact absurd (List.mem_filterMap.2 ⟨o, List.mem_of_getElem? hj, hd⟩) hm)
      simp only [Array.getD_eq_getD_getElem?, Array.getElem?_eq_getElem hi, Array.getElem?_eq_getElem hi2, Option.getD_some] at this
      exact this.symm
  have h2 : a.defers = (putAll a0 a (ops.filterMap (·.dst))).defers := by rw [putAll_defers]; exact inv.defers
  cases a
  simp only at h1 h2
  generalize putAll a0 _ _ = b at *
  cases b
  simp_all

/-- The specifications as a list. -/
def VL (L : List (Value → World → Prop)) (i : Nat) : Value → World → Prop := L.getD i fun _ _ => True
theorem VL_stab {L : List (Value → World → Prop)} (h : ∀ p ∈ L, ∀ v w w', X w w' → p v w → p v w') : ∀ i v w w', X w w' → VL L i v w → VL L i v w' := by
  intro i v w w' hX hv
  unfold VL at *
  rw [List.getD_eq_getElem?_getD] at *
  cases hi : L[i]? with
  | none => simp
  | some p => simp [hi] at hv ⊢; exact h p (List.mem_of_getElem? hi) v w w' hX hv
def EQ (e : Value) : Value → World → Prop := fun v _ => v = e
theorem val_of_run {P : Program} {o : Oper} {ρ : Operand → Value} {w w' : World} {v : Value} {K : Value → World → Prop} (h : (execOp ρ o).run P w = .ok (.value v) w') (hk : K v w') : val P o ρ w K := by
  unfold val; rw [h]; exact hk

theorem val_k {P : Program} {o : Oper} {ρ : Operand → Value} {w : World} {R : Value → World → Prop} (h : ∀ K : Value → World → Prop, (∀ v w', R v w' → K v w') → val P o ρ w K) : val P o ρ w R :=
  h _ fun _ _ h => h
theorem val_call {P : Program} {ρ : Operand → Value} {w : World} {K : Value → World → Prop} {f : FuncId} {fn : Func} (hf : P.funcs[f]? = some fn) (hn : (fn.name == "runtime.NumGoroutine") = false) (hb : fn.body.isNone = false)
    {dst : Option Tmp} {xs : Array Operand} {ats : Array TypeId} {ty : TypeId} {pos : String} {after : Array Edge} {guard : Option (Nat × Bool)}
    (e0 : ρ (.func f) = .func (.func f) #[] #[]) (hc : Calls P f (xs.map ρ) w fun e w'' => ∃ v, e = .returned v ∧ K v w'') :
    vUpon P K ((execOp ρ { dst, op := .call { callee := .value (.func f), args := xs, argTypes := ats }, type := ty, pos, after, guard }).run P w) := by
  have h : (execOp ρ { dst, op := .call { callee := .value (.func f), args := xs, argTypes := ats }, type := ty, pos, after, guard }).run P w = .ok (.enter f (xs.map ρ)) w := by
    have hr : (callFunc f (xs.map ρ)).run P w = .ok (.enter f (xs.map ρ)) w := by
      have hn' : fn.name ≠ "runtime.NumGoroutine" := by simpa using hn
      have hb' : fn.body ≠ none := by intro e; simp [e] at hb
      simp [callFunc, program, Sem.run, hf, hn', hb']
    simp [execOp, resolve, e0, invoke, Deferred.ofValue, hr]
  rw [h]
  exact hc
theorem val_append {P : Program} {ρ : Operand → Value} {w w' : World} {K : Value → World → Prop} {v : Value} {t : Nat} {s x : Operand}
    {dst : Option Tmp} {ty : TypeId} {pos : String} {after : Array Edge} {guard : Option (Nat × Bool)}
    (h : (Builtin.append_ #[t, t] ty #[ρ s, ρ x]).run P w = .ok v w') (hk : K v w') :
    vUpon P K ((execOp ρ { dst, op := .call { callee := .builtin .append, args := #[s, x], argTypes := #[t, t] }, type := ty, pos, after, guard }).run P w) := by
  unfold execOp
  simp only [resolve, invoke, builtin, Sem.run_bind, Sem.run_pure, Result.andThen_ok, List.map_toArray, List.map_cons, List.map_nil, h]
  exact hk
attribute [go_sem] vUpon

/-- **The rule.** Behind the region: each slot that it writes holds a value of which its operation's specification holds, in a world that has grown. -/
theorem wp_region_par {id : Nat} {Q : Exit → Act → World → Prop} {l : List Oper} (hm : P.follows .mixedOrders = true) {a0 : Act} {w0 : World} (X : World → World → Prop) (V : Nat → Value → World → Prop)
    (hB : okB l a0.tmps.size = true) (refl : ∀ w, X w w) (trans : ∀ a b c, X a b → X b c → X a c) (draw : X w0 { w0 with drawn := w0.drawn + 1 })
    (stab : ∀ i v w w', X w w' → V i v w → V i v w') (hg : goals P l X V a0 w0 l 0)
    (fin : ∀ a w, Inv l X V a0 w0 (Array.replicate l.length true) a w → Q .normal (putAll a0 a (l.filterMap (·.dst))) w) :
    (Code.region id l.toArray true).wp P Q a0 w0 := by
  refine wp_region_any hm ?_
  refine wpAny_par Q hB refl trans stab hg (fun a w inv => by have := fin a w inv; rw [← inv.act] at this; exact this) _ _ _ _ (by simp) (by simp) ⟨rfl, rfl, draw, ?_, fun _ _ => rfl⟩
  intro j o d hj hl
  simp [Array.getElem?_replicate] at hl
  split at hl <;> simp_all

end
end Go.Par
