/- Rows of frames: a value and a list of bytes each. -/
import Derived.Test.YtpbmbjdiilnaeaaDoorFrmB
import Derived.Test.YtpbmbjdiilnaeaaDoorOpen
set_option maxRecDepth 100000
namespace Go.Proofs.YtpbmbjdiilnaeaaDoor
open Go.RowKit Go.Tum Go.Tum.Crc

abbrev fcells (p : Fr × Value) : List Value := [.int .u8 (p.1.kind.toNat : Int), p.2]
/-- The slice v holds the frames l. -/
def Frs (w : World) (v : Value) (l : List Fr) : Prop := ∃ m : List (Fr × Value), m.map (·.1) = l ∧ RowsOf w 2 v fcells m ∧ ∀ p ∈ m, Byt w p.2 p.1.body
theorem Frs.ext {w w' : World} {v : Value} {l : List Fr} (h : Frs w v l) (k : Ext w w') : Frs w' v l := by
  obtain ⟨m, h1, h2, h3⟩ := h
  exact ⟨m, h1, h2.ext k, fun p hp => (h3 p hp).ext k⟩
theorem Frs.nil (w : World) : Frs w (.slice none 0 0) [] := ⟨[], rfl, RowsOf.nil _ _ _, fun p hp => absurd hp (by simp)⟩
/-- The call's own row of frames: blocks of type T; the bodies lie in blocks of bytes. -/
def FrsO (w : World) (base T : Nat) (v : Value) (l : List Fr) : Prop := ∃ m : List (Fr × Value), m.map (·.1) = l ∧ w.ownsRow base T 2 v m.length (m.flatMap fcells) ∧ ∀ p ∈ m, Own w base 5 p.2 p.1.body
theorem FrsO.frs {w : World} {base T : Nat} {v : Value} {l : List Fr} (h : FrsO w base T v l) : Frs w v l := by
  obtain ⟨m, h1, h2, h3⟩ := h
  exact ⟨m, h1, ⟨fun _ _ => rfl, Sl.of_owns h2⟩, fun p hp => (h3 p hp).byt⟩
theorem FrsO.ext {w w' : World} {base T : Nat} {v : Value} {l : List Fr} (h : FrsO w base T v l) (k : Ext w w') : FrsO w' base T v l := by
  obtain ⟨m, h1, h2, h3⟩ := h
  exact ⟨m, h1, k.owns h2, fun p hp => (h3 p hp).ext k⟩
theorem FrsO.mono {w : World} {b b' T : Nat} {v : Value} {l : List Fr} (h : FrsO w b T v l) (hb : b' ≤ b) : FrsO w b' T v l := by
  obtain ⟨m, h1, h2, h3⟩ := h
  exact ⟨m, h1, owns_mono h2 hb, fun p hp => (h3 p hp).mono hb⟩
theorem FrsO.nil (w : World) (base T : Nat) : FrsO w base T (.slice none 0 0) [] := ⟨[], rfl, World.ownsRow_nil _ _ _ _, fun p hp => absurd hp (by simp)⟩
theorem FrsO.lit0 (w : World) (base T : Nat) (hB : base ≤ w.heap.size) : FrsO (w.alloc (.cells #[] T)) base T (.slice (some ⟨w.heap.size, 0, none⟩) 0 0) [] :=
  ⟨[], rfl, by simpa using World.ownsRow_lit (base := base) (e := T) (size := 2) w #[] 0 hB (by simp [maxLen]) (by simp), fun p hp => absurd hp (by simp)⟩
theorem FrsO.len {w : World} {b T : Nat} {ao : Option Addr} {n cap : Nat} {l : List Fr} (h : FrsO w b T (.slice ao n cap) l) : n = l.length := by
  obtain ⟨m, rfl, h2, _⟩ := h
  rcases h2.2 with ⟨e, e2⟩ | ⟨g, c, cur, e, _⟩
  · cases e; simp [e2]
  · cases e; simp

theorem FrsO.open {w : World} {b T : Nat} {v : Value} {l : List Fr} (h : FrsO w b T v l) : ∃ ao cap, v = .slice ao l.length cap := by
  obtain ⟨m, rfl, h2, _⟩ := h
  rcases h2.2 with ⟨e, e2⟩ | ⟨g, c, cur, e, _⟩
  · subst e; exact ⟨none, 0, by simp [e2]⟩
  · subst e; exact ⟨_, c, by simp; rfl⟩

/-- Bytes lie in other blocks than a row of another type. -/
theorem own_far {w w' : World} {b b' e f size n : Nat} {u v : Value} {xs : List Value} {l : List UInt8} (h : Own w b e v l) (hu : w.ownsRow b' f size u n xs) (hne : e ≠ f) (hg : w.grownBy w' u.ownBlock) : Own w' b e v l := by
  refine ⟨h.1, ?_⟩
  rcases h.2 with hn | ⟨g', cap', cur, hv, hb, hgg, rest⟩
  · exact .inl hn
  · refine .inr ⟨g', cap', cur, hv, hb, ?_, rest⟩
    rw [hg.block g' (Array.getElem?_eq_some_iff.1 hgg).1, hgg]
    rcases hu.2 with ⟨e1, _⟩ | ⟨g, c, cur2, e1, _, hg2, _⟩
    · subst e1; simp [Value.ownBlock]
    · subst e1
      simp only [Value.ownBlock, ne_eq, Option.some.injEq]
      rintro rfl
      rw [hgg] at hg2
      simp at hg2
      exact hne hg2.2

section
variable {P : Program}
/-- 'append(s, x)': s the call's own row of frames, x a frame in a block of its own. -/
theorem wpList_append_fr {ops : Array Oper} {rest : List Oper} {o : Oper} {a : Act} {w : World} {Q : Exit → Act → World → Prop} (hgd : o.guard = none) (s x : Operand) (t : Nat)
    (ho : o.op = .call { callee := .builtin .append, args := #[s, x], argTypes := #[t, t] }) (base T : Nat) (ht : P.underlying t = some (.slice T))
    (hi : (P.info? T).map (fun i => (i.zero, i.size, i.bytes)) = some (some (.agg #[.int .u8 0, .slice none 0 0]), 2, 32)) (hT : 5 ≠ T)
    {v : Value} {l : List Fr} (hs : a.eval s = v) (hown : FrsO w base T v l) {g : Nat} {y : Fr} {r : Value} (hx : a.eval x = .slice (some ⟨g, 0, none⟩) 1 1)
    {ty : TypeId} {fr : Nat × Nat} (hblk : w.heap[g]? = some (.cells #[.int .u8 (y.kind.toNat : Int), r] ty fr)) (hr : Own w base 5 r y.body)
    (N : Nat) (hN : N = l.length + 1) (hb : N * 32 ≤ 140737488355328) (hbase : base ≤ w.heap.size)
    (h : ∀ ao cap w', FrsO w' base T (.slice ao N cap) (l ++ [y]) → w.grownBy w' v.ownBlock → Below base w w' → wpList P ops Q rest (a.put o.dst (.slice ao N cap)) w') :
    wpList P ops Q (o :: rest) a w := by
  subst hN
  obtain ⟨m, rfl, h2, h3⟩ := hown
  have hone : r.oneCell' = true := by
    obtain ⟨ao, cap, rfl, _⟩ := hr.byt.open
    rfl
  have hsl : Sl w 2 (.slice (some ⟨g, 0, none⟩) 1 1) 1 [.int .u8 (y.kind.toNat : Int), r] := by
    refine ⟨rfl, some ⟨g, 0, none⟩, 1, rfl, Nat.le_refl _, by simp [maxLen], (fun h => by cases h), fun a ha j u hu => ?_⟩
    cases ha
    have e1 : (⟨g, 0, none⟩ : Addr).add j = ⟨g, j, none⟩ := by unfold Addr.add; split <;> simp_all
    rw [e1, cell_of_row _ _ _ _ _ _ hblk]
    simpa using hu
  have hlen : (m.map (·.1)).length = m.length := by simp
  rw [hlen] at hb h
  refine wpList_append_sl hgd s x t ho base T ht hi rfl (by decide) hs h2 hx hsl (by
    intro y' hy'
    simp at hy'
    rcases hy' with rfl | rfl
    · rfl
    · exact hone) (by simp [maxLen]; omega) (by omega) hbase fun ao cap w' k1 k2 k3 => ?_
  refine h ao cap w' ⟨m ++ [(y, r)], by simp, by simpa using k1, ?_⟩ k2 k3
  intro p hp
  rcases List.mem_append.1 hp with hp | hp
  · exact own_far (h3 p hp) h2 hT k2
  · simp at hp; subst hp
    exact own_far hr h2 hT k2

/-- The same of rows alone. -/
theorem wpList_append_row2 {ops : Array Oper} {rest : List Oper} {o : Oper} {a : Act} {w : World} {Q : Exit → Act → World → Prop} (hgd : o.guard = none) (s x : Operand) (t : Nat)
    (ho : o.op = .call { callee := .builtin .append, args := #[s, x], argTypes := #[t, t] }) (base T : Nat) (ht : P.underlying t = some (.slice T))
    (hi : (P.info? T).map (fun i => (i.zero, i.size, i.bytes)) = some (some (.agg #[.int .u8 0, .slice none 0 0]), 2, 32))
    {v : Value} {n : Nat} {xs : List Value} (hs : a.eval s = v) (hown : w.ownsRow base T 2 v n xs) {g : Nat} {p r : Value} (hx : a.eval x = .slice (some ⟨g, 0, none⟩) 1 1)
    {ty : TypeId} {fr : Nat × Nat} (hblk : w.heap[g]? = some (.cells #[p, r] ty fr)) (hp : p.oneCell' = true) (hr : r.oneCell' = true)
    (hb : (n + 1) * 32 ≤ 140737488355328) (hbase : base ≤ w.heap.size)
    (h : ∀ ao cap w', w'.ownsRow base T 2 (.slice ao (n + 1) cap) (n + 1) (xs ++ [p, r]) → w.grownBy w' v.ownBlock → Below base w w' → wpList P ops Q rest (a.put o.dst (.slice ao (n + 1) cap)) w') :
    wpList P ops Q (o :: rest) a w := by
  have hsl : Sl w 2 (.slice (some ⟨g, 0, none⟩) 1 1) 1 [p, r] := by
    refine ⟨rfl, some ⟨g, 0, none⟩, 1, rfl, Nat.le_refl _, by simp [maxLen], (fun h => by cases h), fun a ha j u hu => ?_⟩
    cases ha
    have e1 : (⟨g, 0, none⟩ : Addr).add j = ⟨g, j, none⟩ := by unfold Addr.add; split <;> simp_all
    rw [e1, cell_of_row _ _ _ _ _ _ hblk]
    simpa using hu
  refine wpList_append_sl hgd s x t ho base T ht hi rfl (by decide) hs hown hx hsl (by
      intro y' hy'
      simp at hy'
      rcases hy' with rfl | rfl
      · exact hp
      · exact hr) (by simp [maxLen]; omega) (by omega) hbase fun ao cap w' k1 k2 k3 => h ao cap w' k1 k2 k3

theorem fcells_one {w : World} : ∀ {q : List (Fr × Value)}, (∀ p ∈ q, Byt w p.2 p.1.body) → ∀ y ∈ q.flatMap fcells, y.oneCell' = true := by
  intro q hq y hy
  obtain ⟨p, hp, hy⟩ := List.mem_flatMap.1 hy
  simp at hy
  rcases hy with rfl | rfl
  · rfl
  · obtain ⟨ao, cap, e, _⟩ := (hq p hp).open
    rw [e]; rfl
/-- 'append(s, x...)' of frames. -/
theorem wpList_append_frows {ops : Array Oper} {rest : List Oper} {o : Oper} {a : Act} {w : World} {Q : Exit → Act → World → Prop} (hgd : o.guard = none) (s x : Operand) (t : Nat)
    (ho : o.op = .call { callee := .builtin .append, args := #[s, x], argTypes := #[t, t] }) (base T : Nat) (ht : P.underlying t = some (.slice T))
    (hi : (P.info? T).map (fun i => (i.zero, i.size, i.bytes)) = some (some (.agg #[.int .u8 0, .slice none 0 0]), 2, 32))
    {v : Value} {q1 : List (Fr × Value)} (hs : a.eval s = v) (hown : w.ownsRow base T 2 v q1.length (q1.flatMap fcells)) {u : Value} {q : List (Fr × Value)} (hx : a.eval x = u) (hrows : RowsOf w 2 u fcells q)
    (hB : ∀ p ∈ q, Byt w p.2 p.1.body) (N : Nat) (hN : N = q1.length + q.length) (hb : N * 32 ≤ 140737488355328) (hbase : base ≤ w.heap.size)
    (h : ∀ ao cap w', w'.ownsRow base T 2 (.slice ao N cap) (q1 ++ q).length ((q1 ++ q).flatMap fcells) → w.grownBy w' v.ownBlock → Below base w w' → wpList P ops Q rest (a.put o.dst (.slice ao N cap)) w') :
    wpList P ops Q (o :: rest) a w := by
  subst hN
  refine wpList_append_sl hgd s x t ho base T ht hi rfl (by decide) hs hown hx hrows.2 (fcells_one hB) (by simp [maxLen]; omega) (by omega) hbase fun ao cap w' k1 k2 k3 => ?_
  exact h ao cap w' (by rw [List.length_append, List.flatMap_append]; exact k1) k2 k3
end

theorem ret_all {x : Value} {n m e f : Int} (h : n = m) (k : e = f) : Ending.returned (.tuple #[x, .int .i64 n, .int .i64 e]) = .returned (.tuple #[x, .int .i64 m, .int .i64 f]) := by rw [h, k]

/-- What All answers. -/
def AllR (T : Nat) (w : World) (b : List UInt8) (e : Ending) (w' : World) : Prop :=
  ∃ r, e = .returned (.tuple #[r, .int .i64 ((fall b).2.1 : Nat), .int .i64 (fall b).2.2]) ∧ FrsO w' w.heap.size T r (fall b).1 ∧ Ext w w'
end Go.Proofs.YtpbmbjdiilnaeaaDoor
