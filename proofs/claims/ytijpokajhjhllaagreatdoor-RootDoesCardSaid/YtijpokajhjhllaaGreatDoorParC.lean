/- The rule for a region that draws its order, with a state that its operations turn: what is known of the world may hang on which operations have run; what is known of a slot's value hangs on nothing. No operation is guarded. -/
import Derived.Test.YtijpokajhjhllaaGreatDoorParB
namespace Go.ParC
open Go.RowKit Go.Par
open Go.ParB (upd Lof Lof_set)

def VW (V : Nat → Value → Prop) : Nat → Value → World → Prop := fun j v _ => V j v
def goals (P : Program) (ops : List Oper) (R : (Nat → Bool) → World → Prop) (V : Nat → Value → Prop) (a0 : Act) : List Oper → Nat → Prop
  | [], _ => True
  | o :: r, i =>
    (∀ (L : Nat → Bool) (ρ : Operand → Value) (w : World), R L w → L i = false → (o.after.all fun e => !Region.binds .any e || L e.on) = true → knowsAll ops (VW V) a0 ρ w o.op.operands.toList → val P o ρ w fun v w' => R (upd L i) w' ∧ V i v) ∧
    goals P ops R V a0 r (i + 1)
theorem goals_at {P : Program} {ops : List Oper} {R : (Nat → Bool) → World → Prop} {V : Nat → Value → Prop} {a0 : Act} :
    ∀ (l : List Oper) (k : Nat), goals P ops R V a0 l k → ∀ i o, l[i]? = some o →
      ∀ (L : Nat → Bool) (ρ : Operand → Value) (w : World), R L w → L (k + i) = false → (o.after.all fun e => !Region.binds .any e || L e.on) = true → knowsAll ops (VW V) a0 ρ w o.op.operands.toList → val P o ρ w fun v w' => R (upd L (k + i)) w' ∧ V (k + i) v
  | [], _, _, i, o, h => by simp at h
  | o :: r, k, h, 0, o', ho => by
    simp at ho; subst ho; exact h.1
  | o :: r, k, h, i + 1, o', ho => by
    have := goals_at r (k + 1) h.2 i o' (by simpa using ho)
    rw [show k + 1 + i = k + (i + 1) by omega] at this
    exact this
section
variable {P : Program} {ops : List Oper} {R : (Nat → Bool) → World → Prop} {V : Nat → Value → Prop} {a0 : Act}
abbrev CInv (ops : List Oper) (V : Nat → Value → Prop) (a0 : Act) (listed : Array Bool) (a : Act) (w : World) : Prop := Par.Inv ops (fun _ _ => True) (VW V) a0 w listed a w
theorem cinv_step (hB : okB ops a0.tmps.size = true) {listed : Array Bool} (hls : listed.size = ops.length) {a : Act} {w w' : World} {i : Nat} {o : Oper} {v : Value} (hi : ops[i]? = some o)
    (inv : CInv ops V a0 listed a w) (hv : V i v) : CInv ops V a0 (listed.setIfInBounds i true) (a.put o.dst v) w' := by
  have h := Par.Inv.step (X := fun _ _ => True) (w' := w') hB (fun _ _ _ _ _ => trivial) (fun _ _ _ _ _ h => h) hls hi inv trivial (show VW V i v w' from hv)
  exact ⟨h.size, h.defers, trivial, h.done, h.old⟩
theorem wpAny_c (Q : Exit → Act → World → Prop) (hB : okB ops a0.tmps.size = true) (hng : (ops.all fun o => o.guard.isNone) = true) (hg : goals P ops R V a0 ops 0)
    (fin : ∀ a w, CInv ops V a0 (Array.replicate ops.length true) a w → R (Lof (Array.replicate ops.length true)) w → Q .normal a w) :
    ∀ (fuel : Nat) (listed : Array Bool) (a : Act) (w : World), listed.size = ops.length → (listed.toList.filter (· == false)).length ≤ fuel →
      CInv ops V a0 listed a w → R (Lof listed) w → wpAny P .any ops.toArray Q fuel listed a w := by
  have hB' := hB
  simp only [okB, Bool.and_eq_true] at hB'
  have hb3 := hB'.2
  have ended : ∀ (listed : Array Bool) (a : Act) (w : World), listed.size = ops.length → CInv ops V a0 listed a w → R (Lof listed) w → Region.ready .any ops.toArray listed = [] → Q .normal a w := by
    intro listed a w hls inv hR hnil
    have all : ∀ n i, i ≤ n → i < ops.length → listed.getD i false = true := by
      intro n
      induction n with
      | zero =>
        intro i hi hlt
        obtain rfl : i = 0 := by omega
        cases hl : listed.getD 0 false with
        | true => rfl
        | false =>
          exfalso
          have : 0 ∈ Region.ready .any ops.toArray listed := by
            rw [mem_ready]
            refine ⟨by simp [hls ▸ hlt] at hl ⊢; exact hl, ops[0], by simp [hlt], fun e he hb => ?_⟩
            have h3 := List.all_eq_true.1 hb3 (ops[0], 0) (by rw [List.mem_zipIdx_iff_getElem?]; simp [hlt])
            simp only [Bool.and_eq_true] at h3
            have := (Array.all_eq_true_iff_forall_mem.1 h3.1.1.1) e he
            simp [hb] at this
          rw [hnil] at this; cases this
      | succ n ih =>
        intro i hi hlt
        cases hl : listed.getD i false with
        | true => rfl
        | false =>
          exfalso
          have : i ∈ Region.ready .any ops.toArray listed := by
            rw [mem_ready]
            refine ⟨by simp [hls ▸ hlt] at hl ⊢; exact hl, ops[i], by simp [hlt], fun e he hb => ?_⟩
            have h3 := List.all_eq_true.1 hb3 (ops[i], i) (by rw [List.mem_zipIdx_iff_getElem?]; simp [hlt])
            simp only [Bool.and_eq_true] at h3
            have := (Array.all_eq_true_iff_forall_mem.1 h3.1.1.1) e he
            simp [hb] at this
            exact ih e.on (by omega) (by omega)
          rw [hnil] at this; cases this
    have he : listed = Array.replicate ops.length true := by
      apply Array.ext
      · simp [hls]
      · intro i h1 h2
        have := all i i (Nat.le_refl _) (by simpa using h2)
        simp [h1] at this
        simp [this]
    subst he
    exact fin a w inv hR
  intro fuel
  induction fuel with
  | zero =>
    intro listed a w hls hf inv hR
    have hnil : Region.ready .any ops.toArray listed = [] := by
      rw [List.eq_nil_iff_forall_not_mem]
      intro i hi
      have h0 := (mem_ready.1 hi).1
      have hlt : i < listed.size := by
        rcases Nat.lt_or_ge i listed.size with h' | h'
        · exact h'
        · simp [Array.getElem?_eq_none h'] at h0
      simp [hlt] at h0
      have : false ∈ listed.toList.filter (· == false) := by
        rw [List.mem_filter]
        exact ⟨by rw [← h0]; exact Array.mem_toList_iff.2 (Array.getElem_mem hlt), rfl⟩
      have := List.length_pos_of_mem this
      omega
    exact ⟨hnil, ended listed a w hls inv hR hnil⟩
  | succ fuel ih =>
    intro listed a w hls hf inv hR
    refine ⟨ended listed a w hls inv hR, fun i hi => ?_⟩
    obtain ⟨hun, o, ho, hr⟩ := mem_ready.1 hi
    have ho' : ops[i]? = some o := by simpa using ho
    have hlt : i < listed.size := by
      rcases Nat.lt_or_ge i listed.size with h' | h'
      · exact h'
      · simp [Array.getElem?_eq_none h'] at hun
    have hcount : ((listed.setIfInBounds i true).toList.filter (· == false)).length ≤ fuel := by
      have h1 : listed[i] = false := by simpa [hlt] using hun
      have : ∀ (l : List Bool) (k : Nat) (hk : k < l.length), l[k] = false → ((l.set k true).filter (· == false)).length + 1 = (l.filter (· == false)).length := by
        intro l
        induction l with
        | nil => intro k hk; simp at hk
        | cons b l ihl =>
          intro k hk hb
          match k with
          | 0 => simp at hb; subst hb; simp
          | k + 1 =>
            simp at hb
            have := ihl k (by simpa using hk) hb
            rw [List.set_cons_succ, List.filter_cons, List.filter_cons]
            split
            · rw [List.length_cons, List.length_cons]; omega
            · exact this
      have := this listed.toList i (by simpa using hlt) (by simpa using h1)
      simp only [Array.toList_setIfInBounds]
      omega
    have hg' := goals_at ops 0 hg i o ho'
    simp only [Nat.zero_add] at hg'
    have next : ∀ v w', R (upd (Lof listed) i) w' → V i v → wpAny P .any ops.toArray Q fuel (listed.setIfInBounds i true) (a.put o.dst v) w' := fun v w' hR hv =>
      ih _ _ _ (by simpa using hls) hcount (cinv_step hB hls ho' inv hv) (by rw [Lof_set hlt]; exact hR)
    have hLi : Lof listed i = false := by unfold Lof; simp [hlt] at hun ⊢; exact hun
    have hgn : o.guard = none := by
      have := List.all_eq_true.1 hng o (List.mem_of_getElem? ho')
      simpa using this
    unfold wpOp
    simp only [ho]
    split
    · left
      refine wp_of_val (hg' (Lof listed) a.eval w hR hLi ?_ (knowsAll_of_inv hB ho' inv hr)) fun v w' h => next v w' h.1 h.2
      rw [Array.all_eq_true_iff_forall_mem]
      intro e he
      by_cases hb : Region.binds .any e = true
      · have := hr e he hb
        unfold Lof
        simp [hb, this]
      · simp [hb]
    · rename_i hw
      unfold Region.wanted at hw
      simp [hgn] at hw
theorem wp_region_c {id : Nat} {Q : Exit → Act → World → Prop} {l : List Oper} (hm : P.follows .mixedOrders = true) {a0 : Act} {w0 : World} (R : (Nat → Bool) → World → Prop) (V : Nat → Value → Prop)
    (hB : okB l a0.tmps.size = true) (hng : (l.all fun o => o.guard.isNone) = true) (h0 : R (fun _ => false) { w0 with drawn := w0.drawn + 1 }) (hg : goals P l R V a0 l 0)
    (fin : ∀ a w, CInv l V a0 (Array.replicate l.length true) a w → R (Lof (Array.replicate l.length true)) w → Q .normal (putAll a0 a (l.filterMap (·.dst))) w) :
    (Code.region id l.toArray true).wp P Q a0 w0 := by
  refine wp_region_any hm ?_
  refine wpAny_c Q hB hng hg (fun a w inv hR => by have := fin a w inv hR; rw [← Par.Inv.act inv] at this; exact this) _ _ _ _ (by simp) (by simp) ⟨rfl, rfl, trivial, ?_, fun _ _ => rfl⟩ ?_
  · intro j o d hj hl
    simp [Array.getElem?_replicate] at hl
    split at hl <;> simp_all
  · have : Lof (Array.replicate l.length false) = fun _ => false := by
      funext k; unfold Lof
      simp [Array.getElem?_replicate]
      split <;> simp
    rw [List.size_toArray, this]; exact h0
end
def VC (L : List (Value → Prop)) (i : Nat) : Value → Prop := L.getD i fun _ => True
def EQ (e : Value) : Value → Prop := fun v => v = e
end Go.ParC
