/- Appends to a row of ids, and where what comes of it lies. -/
import Derived.Test.YtcfgafododiioaaGreatDoorIdxEe
import Derived.Maps.AppendAt
set_option linter.unusedSimpArgs false
set_option linter.unusedVariables false
namespace Go.Proofs.YtcfgafododiioaaGreatDoor
open Go Go.RowKit Go.Tum Go.ChangeMaps Go.Sort Go.Tum.Rn

section
variable {P : Program}
theorem run_append_ids_at (base t ty e : Nat) (ht : P.underlying t = some (.slice e)) (hi : (P.info? e).map (fun i => (i.zero, i.size, i.bytes)) = some (some (.int .u64 0), 1, 8))
    {w : World} {v u : Value} {l1 l2 : List UInt64} (hown : w.ownsRow base e 1 v l1.length (l1.map uv)) (hsl : Vec uv w u l2) (hb : l1.length + l2.length ≤ 10000000) (hbase : base ≤ w.heap.size) :
    ∃ ao cap w', (Builtin.append_ #[t, t] ty #[v, u]).run P w = .ok (.slice ao (l1.length + l2.length) cap) w' ∧ w'.ownsRow base e 1 (.slice ao (l1.length + l2.length) cap) (l1.length + l2.length) ((l1 ++ l2).map uv) ∧ w.grownBy w' v.ownBlock ∧
      ((Value.slice ao (l1.length + l2.length) cap).ownBlock = v.ownBlock ∨ (Value.slice ao (l1.length + l2.length) cap).ownBlock = some w.heap.size) := by
  obtain ⟨i, hi1, hz, hs, hby⟩ := info_parts hi
  obtain ⟨hl, ao, cap, rfl, h3, h4, h5, h6⟩ := hsl
  have hlt := @World.ownsRow.lt w base e 1 v l1.length (l1.map uv) hown
  cases ao with
  | none =>
    have hcap := h5 rfl
    subst hcap
    have hm : l2.length = 0 := by omega
    have hl2 : l2 = [] := List.length_eq_zero_iff.1 hm
    subst hl2
    have hr := run_append_owned_none (P := P) w base t ty e i 1 ht hi1 v l1.length (l1.map uv) hown
    have hv : ∃ ao cap, v = .slice ao l1.length cap := by
      rcases hown.2 with ⟨a, b⟩ | ⟨g, cap, cur, hv, _⟩
      · rw [b]; exact ⟨_, _, a⟩
      · exact ⟨_, _, hv⟩
    obtain ⟨ao, cap, hv⟩ := hv
    subst hv
    exact ⟨ao, cap, w, by simpa using hr, by simpa using hown, World.grownBy.refl _ _, .inl rfl⟩
  | some a =>
    obtain ⟨v', w', hr, ho, hg, _, hat⟩ := run_append_own_at (P := P) w base t ty e i (.int .u64 0) 1 8 ht hi1 hz hs hby rfl (by decide) v l1.length (l1.map uv) hown a l2.length cap (l2.map uv) (by simp) (fun j u hu => h6 a rfl j u hu) (by intro y hy; obtain ⟨x, -, rfl⟩ := List.mem_map.1 hy; rfl) (by simp [maxLen]; omega) (by omega) hbase
    have hv : ∃ ao cap, v' = .slice ao (l1.length + l2.length) cap := by
      rcases ho.2 with ⟨a, b⟩ | ⟨g, cap, cur, hv, _⟩
      · rw [b]; exact ⟨_, _, a⟩
      · exact ⟨_, _, hv⟩
    obtain ⟨ao, cap', rfl⟩ := hv
    exact ⟨ao, cap', w', hr, by simpa using ho, hg, hat⟩
abbrev Rw (w : World) (B : Nat) (v : Value) (l : List UInt64) : Prop := w.ownsRow B 36 1 v l.length (l.map uv)
theorem wpList_append_ids_at {ops : Array Oper} {rest : List Oper} {o : Oper} {a : Act} {w : World} {Q : Exit → Act → World → Prop} (hgd : o.guard = none) (s x : Operand) (t : Nat)
    (ho : o.op = .call { callee := .builtin .append, args := #[s, x], argTypes := #[t, t] }) (base e : Nat) (ht : P.underlying t = some (.slice e))
    (hi : (P.info? e).map (fun i => (i.zero, i.size, i.bytes)) = some (some (.int .u64 0), 1, 8))
    {v : Value} {l1 : List UInt64} (hs : a.eval s = v) (hown : w.ownsRow base e 1 v l1.length (l1.map uv)) {u : Value} {l2 : List UInt64} (hx : a.eval x = u) (hsl : Vec uv w u l2)
    (N : Nat) (hN : N = l1.length + l2.length) (hb : N ≤ 10000000) (hbase : base ≤ w.heap.size)
    (h : ∀ ao cap w', w'.ownsRow base e 1 (.slice ao N cap) N ((l1 ++ l2).map uv) → Fr (oB v) w w' → ((Value.slice ao N cap).ownBlock = v.ownBlock ∨ (Value.slice ao N cap).ownBlock = some w.heap.size) → wpList P ops Q rest (a.put o.dst (.slice ao N cap)) w') :
    wpList P ops Q (o :: rest) a w := by
  subst hN
  obtain ⟨ao, cap, w', hr, h2, h3, h5⟩ := run_append_ids_at (P := P) base t o.type e ht hi hown hsl hb hbase
  have hlt := @World.ownsRow.lt w base e 1 v l1.length (l1.map uv) hown
  have hfr : Fr (oB v) w w' := fr_grownD h3 ((Below.refl base w).grown h3 hbase fun k hk => (hlt k hk).1)
  refine wpList_plain hgd fun K hK => ?_
  unfold Oper.wp execOp
  subst hs hx
  simp only [ho, resolve, invoke, builtin, Sem.run_bind, Sem.run_pure, Result.andThen_ok, List.map_toArray, List.map_cons, List.map_nil, hr]
  exact hK _ _ (h ao cap w' h2 hfr h5)
end
theorem fr_at {w w' : World} {S : List Nat} (f : Fr S w w') {b : Nat} {o : Obj} (h : w.heap[b]? = some o) (hs : b ∉ S) : w'.heap[b]? = some o := (f.block b (Array.getElem?_eq_some_iff.1 h).1 hs).trans h
theorem oB_new {v v' : Value} {n : Nat} (h : v'.ownBlock = v.ownBlock ∨ v'.ownBlock = some n) : ∀ q ∈ oB v', q ∈ oB v ∨ q = n := fun q hq => by
  unfold oB at *
  rcases h with h | h
  · rw [h] at hq; exact .inl hq
  · rw [h] at hq; simp at hq; exact .inr hq
theorem row_lt2 {w : World} {b e s n : Nat} {v : Value} {xs : List Value} (h : w.ownsRow b e s v n xs) : ∀ q ∈ oB v, q < w.heap.size := fun q hq => by
  obtain ⟨cs, e⟩ := row_kind h q hq
  exact (Array.getElem?_eq_some_iff.1 e).1
end Go.Proofs.YtcfgafododiioaaGreatDoor
