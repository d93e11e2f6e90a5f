/- The dead's laws: two lists and three rows of ids beside each other. -/
import Derived.Test.YtfpljeblehieiaaDoorDedQ
import Derived.Maps.AppendAt
set_option linter.unusedSimpArgs false
set_option linter.unusedVariables false
namespace Go.Proofs.YtfpljeblehieiaaDoor
open Go Go.RowKit Go.Tum Go.ChangeMaps Go.Sort Go.Tum.Rn

section
variable {P : Program}
theorem run_append_ids_at (base t ty e : Nat) (ht : P.underlying t = some (.slice e)) (hi : (P.info? e).map (fun i => (i.zero, i.size, i.bytes)) = some (some (.int .u64 0), 1, 8))
    {w : World} {v u : Value} {l1 l2 : List UInt64} (hown : w.ownsRow base e 1 v l1.length (l1.map uv)) (hsl : Vec uv w u l2) (hb : l1.length + l2.length ≤ 10000000) (hbase : base ≤ w.heap.size) :
    ∃ ao cap w', (Builtin.append_ #[t, t] ty #[v, u]).run P w = .ok (.slice ao (l1.length + l2.length) cap) w' ∧ w'.ownsRow base e 1 (.slice ao (l1.length + l2.length) cap) (l1.length + l2.length) ((l1 ++ l2).map uv) ∧ w.grownBy w' v.ownBlock ∧
      ((Value.slice ao (l1.length + l2.length) cap).ownBlock = v.ownBlock ∨ (Value.slice ao (l1.length + l2.length) cap).ownBlock = some w.heap.size) := by
  obtain ⟨i, hi1, hz, hs, hby⟩ := info_parts hi
  obtain ⟨hl, ao, cap, rfl, h3, h4, h5, h6⟩ := hsl
  have hlt := @World.ownsRow.lt w base e 1 v l1.length (l1.map uv) hown
  cases ao with
  | none =>
    have hcap := h5 rfl
    subst hcap
    have hm : l2.length = 0 := by omega
    have hl2 : l2 = [] := List.length_eq_zero_iff.1 hm
    subst hl2
    have hr := run_append_owned_none (P := P) w base t ty e i 1 ht hi1 v l1.length (l1.map uv) hown
    have hv : ∃ ao cap, v = .slice ao l1.length cap := by
      rcases hown.2 with ⟨a, b⟩ | ⟨g, cap, cur, hv, _⟩
      · rw [b]; exact ⟨_, _, a⟩
      · exact ⟨_, _, hv⟩
    obtain ⟨ao, cap, hv⟩ := hv
    subst hv
    exact ⟨ao, cap, w, by simpa using hr, by simpa using hown, World.grownBy.refl _ _, .inl rfl⟩
  | some a =>
    obtain ⟨v', w', hr, ho, hg, _, hat⟩ := run_append_own_at (P := P) w base t ty e i (.int .u64 0) 1 8 ht hi1 hz hs hby rfl (by decide) v l1.length (l1.map uv) hown a l2.length cap (l2.map uv) (by simp) (fun j u hu => h6 a rfl j u hu) (by intro y hy; obtain ⟨x, -, rfl⟩ := List.mem_map.1 hy; rfl) (by simp [maxLen]; omega) (by omega) hbase
    have hv : ∃ ao cap, v' = .slice ao (l1.length + l2.length) cap := by
      rcases ho.2 with ⟨a, b⟩ | ⟨g, cap, cur, hv, _⟩
      · rw [b]; exact ⟨_, _, a⟩
      · exact ⟨_, _, hv⟩
    obtain ⟨ao, cap', rfl⟩ := hv
    exact ⟨ao, cap', w', hr, by simpa using ho, hg, hat⟩
abbrev Rw (w : World) (B : Nat) (v : Value) (l : List UInt64) : Prop := w.ownsRow B 29 1 v l.length (l.map uv)
theorem wpList_append_ids_at {ops : Array Oper} {rest : List Oper} {o : Oper} {a : Act} {w : World} {Q : Exit → Act → World → Prop} (hgd : o.guard = none) (s x : Operand) (t : Nat)
    (ho : o.op = .call { callee := .builtin .append, args := #[s, x], argTypes := #[t, t] }) (base e : Nat) (ht : P.underlying t = some (.slice e))
    (hi : (P.info? e).map (fun i => (i.zero, i.size, i.bytes)) = some (some (.int .u64 0), 1, 8))
    {v : Value} {l1 : List UInt64} (hs : a.eval s = v) (hown : w.ownsRow base e 1 v l1.length (l1.map uv)) {u : Value} {l2 : List UInt64} (hx : a.eval x = u) (hsl : Vec uv w u l2)
    (N : Nat) (hN : N = l1.length + l2.length) (hb : N ≤ 10000000) (hbase : base ≤ w.heap.size)
    (h : ∀ ao cap w', w'.ownsRow base e 1 (.slice ao N cap) N ((l1 ++ l2).map uv) → Fr (oB v) w w' → ((Value.slice ao N cap).ownBlock = v.ownBlock ∨ (Value.slice ao N cap).ownBlock = some w.heap.size) → wpList P ops Q rest (a.put o.dst (.slice ao N cap)) w') :
    wpList P ops Q (o :: rest) a w := by
  subst hN
  obtain ⟨ao, cap, w', hr, h2, h3, h5⟩ := run_append_ids_at (P := P) base t o.type e ht hi hown hsl hb hbase
  have hlt := @World.ownsRow.lt w base e 1 v l1.length (l1.map uv) hown
  have hfr : Fr (oB v) w w' := fr_grown h3 ((Below.refl base w).grown h3 hbase fun k hk => (hlt k hk).1)
  refine wpList_plain hgd fun K hK => ?_
  unfold Oper.wp execOp
  subst hs hx
  simp only [ho, resolve, invoke, builtin, Sem.run_bind, Sem.run_pure, Result.andThen_ok, List.map_toArray, List.map_cons, List.map_nil, hr]
  exact hK _ _ (h ao cap w' h2 hfr h5)
end
theorem DD.norow {w : World} {p mp ms : Nat} {s : PD} (h : DD w p mp ms s) {B n : Nat} {v : Value} {xs : List Value} (ho : w.ownsRow B 29 1 v n xs) : ∀ q ∈ oB v, q ∉ [p, mp, ms] := fun q hq hm => by
  obtain ⟨cs, e⟩ := row_kind ho q hq
  obtain ⟨l, hl, -⟩ := h.rm
  obtain ⟨k, hk, -⟩ := h.sm
  obtain ⟨es, ck, hb⟩ := hl.block
  obtain ⟨es2, ck2, hb2⟩ := hk.block
  simp only [List.mem_cons, List.not_mem_nil, or_false] at hm
  rcases hm with rfl | rfl | rfl
  · rw [h.hd] at e; cases e
  · rw [hb] at e; cases e
  · rw [hb2] at e; cases e
theorem DD.noact {w : World} {p mp ms : Nat} {s : PD} (h : DD w p mp ms s) {b : Nat} {q : AtD} (hq : w.heap[b]? = some (actOD q)) : b ∉ [p, mp, ms] := fun hm => by
  obtain ⟨l, hl, -⟩ := h.rm
  obtain ⟨k, hk, -⟩ := h.sm
  obtain ⟨es, ck, hb⟩ := hl.block
  obtain ⟨es2, ck2, hb2⟩ := hk.block
  simp only [List.mem_cons, List.not_mem_nil, or_false] at hm
  rcases hm with rfl | rfl | rfl
  · rw [h.hd] at hq; cases hq
  · rw [hb] at hq; cases hq
  · rw [hb2] at hq; cases hq
theorem DD.frO {w w' : World} {p mp ms : Nat} {s : PD} (h : DD w p mp ms s) {S : List Nat} (f : Fr S w w') (hs : ∀ q ∈ [p, mp, ms], q ∉ S) : DD w' p mp ms s := h.fr f (hs p (by simp)) (hs mp (by simp)) (hs ms (by simp))
theorem fr_at {w w' : World} {S : List Nat} (f : Fr S w w') {b : Nat} {o : Obj} (h : w.heap[b]? = some o) (hs : b ∉ S) : w'.heap[b]? = some o := (f.block b (Array.getElem?_eq_some_iff.1 h).1 hs).trans h
/-- Two lists and three rows of ids. -/
structure O3 (W0 w : World) (p1 m1 s1 p2 m2 s2 : Nat) (sA sB : PD) (va vt vl : Value) (all told alone : List UInt64) : Prop where
  a : DD w p1 m1 s1 sA
  b : DD w p2 m2 s2 sB
  ab : ∀ q ∈ [p1, m1, s1], q ∉ [p2, m2, s2]
  lo : ∀ q ∈ [p1, m1, s1, p2, m2, s2], W0.heap.size ≤ q
  ra : Rw w W0.heap.size va all
  rt : Rw w W0.heap.size vt told
  rl : Rw w W0.heap.size vl alone
  d1 : ∀ q ∈ oB va, q ∉ oB vt
  d2 : ∀ q ∈ oB va, q ∉ oB vl
  d3 : ∀ q ∈ oB vt, q ∉ oB vl
  ext : Ext W0 w
section
variable {W0 w w' : World} {p1 m1 s1 p2 m2 s2 : Nat} {sA sB : PD} {va vt vl : Value} {all told alone : List UInt64}
theorem O3.fr (h : O3 W0 w p1 m1 s1 p2 m2 s2 sA sB va vt vl all told alone) (k : Ext w w') : O3 W0 w' p1 m1 s1 p2 m2 s2 sA sB va vt vl all told alone :=
  ⟨h.a.ext k, h.b.ext k, h.ab, h.lo, k.owns h.ra, k.owns h.rt, k.owns h.rl, h.d1, h.d2, h.d3, h.ext.trans k⟩
theorem O3.actA (h : O3 W0 w p1 m1 s1 p2 m2 s2 sA sB va vt vl all told alone) {sA' : PD} (hd : DD w' p1 m1 s1 sA') (f : Fr [p1, m1, s1] w w') : O3 W0 w' p1 m1 s1 p2 m2 s2 sA' sB va vt vl all told alone :=
  ⟨hd, h.b.frO f (fun q hq hm => h.ab q hm hq), h.ab, h.lo, ownsRow_fr h.ra f (h.a.norow h.ra), ownsRow_fr h.rt f (h.a.norow h.rt), ownsRow_fr h.rl f (h.a.norow h.rl), h.d1, h.d2, h.d3,
    Below.trans h.ext (f.below (fun q hq => h.lo q (by simp at hq ⊢; rcases hq with h | h | h <;> simp [h])) h.ext.size)⟩
theorem O3.actB (h : O3 W0 w p1 m1 s1 p2 m2 s2 sA sB va vt vl all told alone) {sB' : PD} (hd : DD w' p2 m2 s2 sB') (f : Fr [p2, m2, s2] w w') : O3 W0 w' p1 m1 s1 p2 m2 s2 sA sB' va vt vl all told alone :=
  ⟨h.a.frO f h.ab, hd, h.ab, h.lo, ownsRow_fr h.ra f (h.b.norow h.ra), ownsRow_fr h.rt f (h.b.norow h.rt), ownsRow_fr h.rl f (h.b.norow h.rl), h.d1, h.d2, h.d3,
    Below.trans h.ext (f.below (fun q hq => h.lo q (by simp at hq ⊢; rcases hq with h | h | h <;> simp [h])) h.ext.size)⟩
theorem oB_new {v v' : Value} {n : Nat} (h : v'.ownBlock = v.ownBlock ∨ v'.ownBlock = some n) : ∀ q ∈ oB v', q ∈ oB v ∨ q = n := fun q hq => by
  unfold oB at *
  rcases h with h | h
  · rw [h] at hq; exact .inl hq
  · rw [h] at hq; simp at hq; exact .inr hq
theorem row_lt2 {w : World} {b e s n : Nat} {v : Value} {xs : List Value} (h : w.ownsRow b e s v n xs) : ∀ q ∈ oB v, q < w.heap.size := fun q hq => by
  obtain ⟨cs, e⟩ := row_kind h q hq
  exact (Array.getElem?_eq_some_iff.1 e).1
theorem O3.addAll (h : O3 W0 w p1 m1 s1 p2 m2 s2 sA sB va vt vl all told alone) {v' : Value} {l' : List UInt64} (hr : Rw w' W0.heap.size v' l') (f : Fr (oB va) w w') (hat : v'.ownBlock = va.ownBlock ∨ v'.ownBlock = some w.heap.size) :
    O3 W0 w' p1 m1 s1 p2 m2 s2 sA sB v' vt vl l' told alone :=
  ⟨h.a.frO f (fun q hq hm => h.a.norow h.ra q hm hq), h.b.frO f (fun q hq hm => h.b.norow h.ra q hm hq), h.ab, h.lo, hr, ownsRow_fr h.rt f (fun q h1 h2 => h.d1 q h2 h1), ownsRow_fr h.rl f (fun q h1 h2 => h.d2 q h2 h1),
    (fun q h1 h2 => by rcases oB_new hat q h1 with e | e; exact h.d1 q e h2; have := row_lt2 h.rt q h2; omega), (fun q h1 h2 => by rcases oB_new hat q h1 with e | e; exact h.d2 q e h2; have := row_lt2 h.rl q h2; omega), h.d3,
    Below.trans h.ext (f.below (row_lo h.ra) h.ext.size)⟩
theorem O3.addTold (h : O3 W0 w p1 m1 s1 p2 m2 s2 sA sB va vt vl all told alone) {v' : Value} {l' : List UInt64} (hr : Rw w' W0.heap.size v' l') (f : Fr (oB vt) w w') (hat : v'.ownBlock = vt.ownBlock ∨ v'.ownBlock = some w.heap.size) :
    O3 W0 w' p1 m1 s1 p2 m2 s2 sA sB va v' vl all l' alone :=
  ⟨h.a.frO f (fun q hq hm => h.a.norow h.rt q hm hq), h.b.frO f (fun q hq hm => h.b.norow h.rt q hm hq), h.ab, h.lo, ownsRow_fr h.ra f (fun q h1 h2 => h.d1 q h1 h2), hr, ownsRow_fr h.rl f (fun q h1 h2 => h.d3 q h2 h1),
    (fun q h1 h2 => by rcases oB_new hat q h2 with e | e; exact h.d1 q h1 e; have := row_lt2 h.ra q h1; omega), h.d2, (fun q h1 h2 => by rcases oB_new hat q h1 with e | e; exact h.d3 q e h2; have := row_lt2 h.rl q h2; omega),
    Below.trans h.ext (f.below (row_lo h.rt) h.ext.size)⟩
theorem O3.addAlone (h : O3 W0 w p1 m1 s1 p2 m2 s2 sA sB va vt vl all told alone) {v' : Value} {l' : List UInt64} (hr : Rw w' W0.heap.size v' l') (f : Fr (oB vl) w w') (hat : v'.ownBlock = vl.ownBlock ∨ v'.ownBlock = some w.heap.size) :
    O3 W0 w' p1 m1 s1 p2 m2 s2 sA sB va vt v' all told l' :=
  ⟨h.a.frO f (fun q hq hm => h.a.norow h.rl q hm hq), h.b.frO f (fun q hq hm => h.b.norow h.rl q hm hq), h.ab, h.lo, ownsRow_fr h.ra f (fun q h1 h2 => h.d2 q h1 h2), ownsRow_fr h.rt f (fun q h1 h2 => h.d3 q h1 h2), hr,
    h.d1, (fun q h1 h2 => by rcases oB_new hat q h2 with e | e; exact h.d2 q h1 e; have := row_lt2 h.ra q h1; omega), (fun q h1 h2 => by rcases oB_new hat q h2 with e | e; exact h.d3 q h1 e; have := row_lt2 h.rt q h1; omega),
    Below.trans h.ext (f.below (row_lo h.rl) h.ext.size)⟩
theorem row_noact {w : World} {B n b : Nat} {v : Value} {xs : List Value} {q : AtD} (h : w.ownsRow B 29 1 v n xs) (hq : w.heap[b]? = some (actOD q)) : b ∉ oB v := fun hm => by
  obtain ⟨cs, e⟩ := row_kind h b hm
  rw [hq] at e; cases e
theorem O3.kA (h : O3 W0 w p1 m1 s1 p2 m2 s2 sA sB va vt vl all told alone) (f : Fr [p1, m1, s1] w w') {b : Nat} {q : AtD} (hq : w.heap[b]? = some (actOD q)) : w'.heap[b]? = some (actOD q) := fr_at f hq (h.a.noact hq)
theorem O3.kB (h : O3 W0 w p1 m1 s1 p2 m2 s2 sA sB va vt vl all told alone) (f : Fr [p2, m2, s2] w w') {b : Nat} {q : AtD} (hq : w.heap[b]? = some (actOD q)) : w'.heap[b]? = some (actOD q) := fr_at f hq (h.b.noact hq)
end
theorem lk4 {w : World} {b : Nat} {v0 v1 v2 v3 : Value} {ty : TypeId} (h : w.heap[b]? = some (.cells #[v0, v1, v2, v3] ty (0, 0))) :
    w.cell? ⟨b, 0, none⟩ = some v0 ∧ w.cell? ⟨b, 1, none⟩ = some v1 ∧ w.cell? ⟨b, 2, none⟩ = some v2 ∧ w.cell? ⟨b, 3, none⟩ = some v3 := by
  refine ⟨?_, ?_, ?_, ?_⟩ <;> rw [cell_of_row _ _ _ _ _ _ h] <;> rfl
end Go.Proofs.YtfpljeblehieiaaDoor
