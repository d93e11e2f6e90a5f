/- The rule for a region that draws its order, with a state that its operations turn: what is known may hang on which operations have run, on the slots and on the world. No operation is guarded. -/
import Derived.Test.YtijpokajhjhllaaGreatDoorParC
namespace Go.ParE
open Go.RowKit Go.Par
open Go.ParB (upd Lof Lof_set)
open Go.ParC (VW CInv cinv_step)

def putS (σ : Nat → Value) (d : Option Nat) (v : Value) : Nat → Value := fun s => if d = some s then v else σ s
def slots (a : Act) : Nat → Value := fun s => a.tmps.getD s undef
/-- What an operation waits for has run when it has. -/
def Closed (ops : List Oper) (L : Nat → Bool) : Prop := ∀ i o, ops[i]? = some o → L i = true → ∀ e ∈ o.after, Region.binds .any e = true → L e.on = true
def preds (ops : List Oper) (i : Nat) : List Nat := match ops[i]? with
  | some o => (o.after.toList.filter fun e => Region.binds .any e).map (·.on)
  | none => []
def reach (ops : List Oper) : Nat → Nat → Nat → Bool
  | 0, i, j => i == j
  | n + 1, i, j => i == j || (preds ops i).any fun k => reach ops n k j
theorem Closed.pred {ops : List Oper} {L : Nat → Bool} (h : Closed ops L) {i k : Nat} (hi : L i = true) (hk : k ∈ preds ops i) : L k = true := by
  unfold preds at hk
  split at hk
  · rename_i o ho
    obtain ⟨e, he, rfl⟩ := List.mem_map.1 hk
    obtain ⟨h1, h2⟩ := List.mem_filter.1 he
    exact h i o ho hi e (by simpa using h1) h2
  · simp at hk
theorem Closed.ran {ops : List Oper} {L : Nat → Bool} (h : Closed ops L) : ∀ (n i j : Nat), reach ops n i j = true → L i = true → L j = true
  | 0, i, j, hr, hi => by
    have : i = j := by simpa [reach] using hr
    rw [← this]; exact hi
  | n + 1, i, j, hr, hi => by
    simp only [reach, Bool.or_eq_true] at hr
    rcases hr with hr | hr
    · have : i = j := by simpa using hr
      rw [← this]; exact hi
    · obtain ⟨k, hk, h2⟩ := List.any_eq_true.1 hr
      exact h.ran n k j h2 (h.pred hi hk)
/-- Who waits for one that hasn't run hasn't run. -/
theorem Closed.notyet {ops : List Oper} {L : Nat → Bool} (h : Closed ops L) (i j : Nat) (hj : L j = false) (hr : reach ops 8 i j = true) : L i = false := by
  cases hi : L i with
  | false => rfl
  | true => rw [h.ran 8 i j hr hi] at hj; cases hj
/-- Who has an operation at all its waits for has all that they wait for. -/
theorem Closed.before {ops : List Oper} {L : Nat → Bool} (h : Closed ops L) {o : Oper} {i : Nat} (j : Nat) (hi : ops[i]? = some o) (hd : (o.after.all fun e => !Region.binds .any e || L e.on) = true)
    (hr : (preds ops i).any (fun k => reach ops 8 k j) = true) : L j = true := by
  obtain ⟨k, hk, h2⟩ := List.any_eq_true.1 hr
  refine h.ran 8 k j h2 ?_
  unfold preds at hk
  rw [hi] at hk
  simp only at hk
  obtain ⟨e, he, rfl⟩ := List.mem_map.1 hk
  obtain ⟨h3, h4⟩ := List.mem_filter.1 he
  have := Array.all_eq_true_iff_forall_mem.1 hd e (by simpa using h3)
  simpa [h4] using this
def slotsR (ρ : Operand → Value) : Nat → Value := fun s => ρ (.tmp s)
def goals (P : Program) (ops : List Oper) (R : (Nat → Bool) → (Nat → Value) → World → Prop) (V : Nat → Value → Prop) (a0 : Act) : List Oper → Nat → Prop
  | [], _ => True
  | o :: r, i =>
    (∀ (L : Nat → Bool) (ρ : Operand → Value) (w : World), R L (slotsR ρ) w → Closed ops L → L i = false → (o.after.all fun e => !Region.binds .any e || L e.on) = true → knowsAll ops (VW V) a0 ρ w o.op.operands.toList → val P o ρ w fun v w' => R (upd L i) (putS (slotsR ρ) o.dst v) w' ∧ V i v) ∧
    goals P ops R V a0 r (i + 1)
theorem goals_at {P : Program} {ops : List Oper} {R : (Nat → Bool) → (Nat → Value) → World → Prop} {V : Nat → Value → Prop} {a0 : Act} :
    ∀ (l : List Oper) (k : Nat), goals P ops R V a0 l k → ∀ i o, l[i]? = some o →
      ∀ (L : Nat → Bool) (ρ : Operand → Value) (w : World), R L (slotsR ρ) w → Closed ops L → L (k + i) = false → (o.after.all fun e => !Region.binds .any e || L e.on) = true → knowsAll ops (VW V) a0 ρ w o.op.operands.toList → val P o ρ w fun v w' => R (upd L (k + i)) (putS (slotsR ρ) o.dst v) w' ∧ V (k + i) v
  | [], _, _, i, o, h => by simp at h
  | o :: r, k, h, 0, o', ho => by
    simp at ho; subst ho; exact h.1
  | o :: r, k, h, i + 1, o', ho => by
    have := goals_at r (k + 1) h.2 i o' (by simpa using ho)
    rw [show k + 1 + i = k + (i + 1) by omega] at this
    exact this
section
variable {P : Program} {ops : List Oper} {R : (Nat → Bool) → (Nat → Value) → World → Prop} {V : Nat → Value → Prop} {a0 : Act}
theorem slots_eval (a : Act) : slotsR a.eval = slots a := rfl
theorem slots_put (hB : okB ops a0.tmps.size = true) {a : Act} (hs : a.tmps.size = a0.tmps.size) {i : Nat} {o : Oper} (hi : ops[i]? = some o) (v : Value) : slots (a.put o.dst v) = putS (slots a) o.dst v := by
  simp only [okB, Bool.and_eq_true] at hB
  obtain ⟨⟨hb1, -⟩, -⟩ := hB
  funext s
  unfold slots putS
  by_cases h : o.dst = some s
  · rw [if_pos h, h, getD_put_same]
    rw [hs]
    have := List.all_eq_true.1 hb1 o (List.mem_of_getElem? hi)
    simpa [h] using this
  · rw [if_neg h, getD_put_ne h]
theorem Closed.step {ops : List Oper} {listed : Array Bool} {i : Nat} {o : Oper} (h : Closed ops (Lof listed)) (hi : ops[i]? = some o) (hr : ∀ e ∈ o.after, Region.binds .any e = true → listed.getD e.on false = true) : Closed ops (upd (Lof listed) i) := by
  intro k o' hk hl e he hb
  unfold upd
  split
  · rfl
  · by_cases hki : k = i
    · subst hki
      rw [hi] at hk; cases hk
      exact hr e he hb
    · unfold upd at hl
      rw [if_neg hki] at hl
      exact h k o' hk hl e he hb
theorem wpAny_e (Q : Exit → Act → World → Prop) (hB : okB ops a0.tmps.size = true) (hng : (ops.all fun o => o.guard.isNone) = true) (hg : goals P ops R V a0 ops 0)
    (fin : ∀ a w, CInv ops V a0 (Array.replicate ops.length true) a w → R (Lof (Array.replicate ops.length true)) (slots a) w → Q .normal a w) :
    ∀ (fuel : Nat) (listed : Array Bool) (a : Act) (w : World), listed.size = ops.length → (listed.toList.filter (· == false)).length ≤ fuel →
      CInv ops V a0 listed a w → Closed ops (Lof listed) → R (Lof listed) (slots a) w → wpAny P .any ops.toArray Q fuel listed a w := by
  have hB' := hB
  simp only [okB, Bool.and_eq_true] at hB'
  have hb3 := hB'.2
  have ended : ∀ (listed : Array Bool) (a : Act) (w : World), listed.size = ops.length → CInv ops V a0 listed a w → R (Lof listed) (slots a) w → Region.ready .any ops.toArray listed = [] → Q .normal a w := by
    intro listed a w hls inv hR hnil
    have all : ∀ n i, i ≤ n → i < ops.length → listed.getD i false = true := by
      intro n
      induction n with
      | zero =>
        intro i hi hlt
        obtain rfl : i = 0 := by omega
        cases hl : listed.getD 0 false with
        | true => rfl
        | false =>
          exfalso
          have : 0 ∈ Region.ready .any ops.toArray listed := by
            rw [mem_ready]
            refine ⟨by simp [hls ▸ hlt] at hl ⊢; exact hl, ops[0], by simp [hlt], fun e he hb => ?_⟩
            have h3 := List.all_eq_true.1 hb3 (ops[0], 0) (by rw [List.mem_zipIdx_iff_getElem?]; simp [hlt])
            simp only [Bool.and_eq_true] at h3
            have := (Array.all_eq_true_iff_forall_mem.1 h3.1.1.1) e he
            simp [hb] at this
          rw [hnil] at this; cases this
      | succ n ih =>
        intro i hi hlt
        cases hl : listed.getD i false with
        | true => rfl
        | false =>
          exfalso
          have : i ∈ Region.ready .any ops.toArray listed := by
            rw [mem_ready]
            refine ⟨by simp [hls ▸ hlt] at hl ⊢; exact hl, ops[i], by simp [hlt], fun e he hb => ?_⟩
            have h3 := List.all_eq_true.1 hb3 (ops[i], i) (by rw [List.mem_zipIdx_iff_getElem?]; simp [hlt])
            simp only [Bool.and_eq_true] at h3
            have := (Array.all_eq_true_iff_forall_mem.1 h3.1.1.1) e he
            simp [hb] at this
            exact ih e.on (by omega) (by omega)
          rw [hnil] at this; cases this
    have he : listed = Array.replicate ops.length true := by
      apply Array.ext
      · simp [hls]
      · intro i h1 h2
        have := all i i (Nat.le_refl _) (by simpa using h2)
        simp [h1] at this
        simp [this]
    subst he
    exact fin a w inv hR
  intro fuel
  induction fuel with
  | zero =>
    intro listed a w hls hf inv hC hR
    have hnil : Region.ready .any ops.toArray listed = [] := by
      rw [List.eq_nil_iff_forall_not_mem]
      intro i hi
      have h0 := (mem_ready.1 hi).1
      have hlt : i < listed.size := by
        rcases Nat.lt_or_ge i listed.size with h' | h'
        · exact h'
        · simp [Array.getElem?_eq_none h'] at h0
      simp [hlt] at h0
      have : false ∈ listed.toList.filter (· == false) := by
        rw [List.mem_filter]
        exact ⟨by rw [← h0]; exact Array.mem_toList_iff.2 (Array.getElem_mem hlt), rfl⟩
      have := List.length_pos_of_mem this
      omega
    exact ⟨hnil, ended listed a w hls inv hR hnil⟩
  | succ fuel ih =>
    intro listed a w hls hf inv hC hR
    refine ⟨ended listed a w hls inv hR, fun i hi => ?_⟩
    obtain ⟨hun, o, ho, hr⟩ := mem_ready.1 hi
    have ho' : ops[i]? = some o := by simpa using ho
    have hlt : i < listed.size := by
      rcases Nat.lt_or_ge i listed.size with h' | h'
      · exact h'
      · simp [Array.getElem?_eq_none h'] at hun
    have hcount : ((listed.setIfInBounds i true).toList.filter (· == false)).length ≤ fuel := by
      have h1 : listed[i] = false := by simpa [hlt] using hun
      have : ∀ (l : List Bool) (k : Nat) (hk : k < l.length), l[k] = false → ((l.set k true).filter (· == false)).length + 1 = (l.filter (· == false)).length := by
        intro l
        induction l with
        | nil => intro k hk; simp at hk
        | cons b l ihl =>
          intro k hk hb
          match k with
          | 0 => simp at hb; subst hb; simp
          | k + 1 =>
            simp at hb
            have := ihl k (by simpa using hk) hb
            rw [List.set_cons_succ, List.filter_cons, List.filter_cons]
            split
            · rw [List.length_cons, List.length_cons]; omega
            · exact this
      have := this listed.toList i (by simpa using hlt) (by simpa using h1)
      simp only [Array.toList_setIfInBounds]
      omega
    have hg' := goals_at ops 0 hg i o ho'
    simp only [Nat.zero_add] at hg'
    have next : ∀ v w', R (upd (Lof listed) i) (putS (slots a) o.dst v) w' → V i v → wpAny P .any ops.toArray Q fuel (listed.setIfInBounds i true) (a.put o.dst v) w' := fun v w' hR hv =>
      ih _ _ _ (by simpa using hls) hcount (cinv_step hB hls ho' inv hv) (by rw [Lof_set hlt]; exact hC.step ho' hr) (by rw [Lof_set hlt, slots_put hB inv.size ho']; exact hR)
    have hLi : Lof listed i = false := by unfold Lof; simp [hlt] at hun ⊢; exact hun
    have hgn : o.guard = none := by
      have := List.all_eq_true.1 hng o (List.mem_of_getElem? ho')
      simpa using this
    unfold wpOp
    simp only [ho]
    split
    · left
      refine wp_of_val (hg' (Lof listed) a.eval w hR hC hLi ?_ (knowsAll_of_inv hB ho' inv hr)) fun v w' h => next v w' h.1 h.2
      rw [Array.all_eq_true_iff_forall_mem]
      intro e he
      by_cases hb : Region.binds .any e = true
      · have := hr e he hb
        unfold Lof
        simp [hb, this]
      · simp [hb]
    · rename_i hw
      unfold Region.wanted at hw
      simp [hgn] at hw
theorem wp_region_e {id : Nat} {Q : Exit → Act → World → Prop} {l : List Oper} (hm : P.follows .mixedOrders = true) {a0 : Act} {w0 : World} (R : (Nat → Bool) → (Nat → Value) → World → Prop) (V : Nat → Value → Prop)
    (hB : okB l a0.tmps.size = true) (hng : (l.all fun o => o.guard.isNone) = true) (h0 : R (fun _ => false) (slots a0) { w0 with drawn := w0.drawn + 1 }) (hg : goals P l R V a0 l 0)
    (fin : ∀ a w, CInv l V a0 (Array.replicate l.length true) a w → R (Lof (Array.replicate l.length true)) (slots a) w → Q .normal (putAll a0 a (l.filterMap (·.dst))) w) :
    (Code.region id l.toArray true).wp P Q a0 w0 := by
  refine wp_region_any hm ?_
  refine wpAny_e Q hB hng hg (fun a w inv hR => by have := fin a w inv hR; rw [← Par.Inv.act inv] at this; exact this) _ _ _ _ (by simp) (by simp) ⟨rfl, rfl, trivial, ?_, fun _ _ => rfl⟩ ?_ ?_
  · intro j o d hj hl
    simp [Array.getElem?_replicate] at hl
    split at hl <;> simp_all
  · intro k o hk hl
    unfold Lof at hl
    simp [Array.getElem?_replicate] at hl
    split at hl <;> simp_all
  · have : Lof (Array.replicate l.length false) = fun _ => false := by
      funext k; unfold Lof
      simp [Array.getElem?_replicate]
      split <;> simp
    rw [List.size_toArray, this]; exact h0
end
end Go.ParE
