/- An append leaves what it appends to readable as it was. -/
import Derived.Test.YtijpokajhjhllaaGreatDoorLib
set_option maxRecDepth 100000
namespace Go.Tum
open Go.RowKit

section
variable {P : Program}
theorem run_append_keep (base t ty e : Nat) {z : Value} {size bytes : Nat} (ht : P.underlying t = some (.slice e))
    (hi : (P.info? e).map (fun i => (i.zero, i.size, i.bytes)) = some (some z, size, bytes)) (hzs : z.cells.size = size) (hsz : 0 < size)
    {w : World} {v : Value} {n : Nat} {xs : List Value} (hown : w.ownsRow base e size v n xs) {u : Value} {m : Nat} {ys : List Value} (hsl : Sl w size u m ys) (h1 : ∀ y ∈ ys, y.oneCell' = true)
    (hb : n + m ≤ maxLen) (hbytes : (n + m) * bytes ≤ 140737488355328) (hbase : base ≤ w.heap.size) :
    ∃ ao cap w', (Builtin.append_ #[t, t] ty #[v, u]).run P w = .ok (.slice ao (n + m) cap) w' ∧ w'.ownsRow base e size (.slice ao (n + m) cap) (n + m) (xs ++ ys) ∧ w'.ownsRow base e size v n xs ∧ w.grownBy w' v.ownBlock ∧ Below base w w' := by
  obtain ⟨ao, cap, w', hr, h2, h3, h4⟩ := run_append_sl (P := P) base t ty e ht hi hzs hsz hown hsl h1 hb hbytes hbase
  refine ⟨ao, cap, w', hr, h2, ?_, h3, h4⟩
  obtain ⟨i, hi1, hz, hs, hby⟩ := info_parts hi
  rcases hown.2 with ⟨rfl, rfl⟩ | ⟨g, cap0, cur, rfl, hbg, hg, hnc, hcm, hcs, htake⟩
  · have hx : xs = [] := List.eq_nil_of_length_eq_zero (by simpa using hown.1)
    subst hx
    exact World.ownsRow_nil _ _ _ _
  · obtain ⟨hl, uo, ucap, rfl, k3, k4, k5, k6⟩ := hsl
    cases uo with
    | none =>
      have := k5 rfl
      subst this
      obtain rfl : m = 0 := by omega
      have hys : ys = [] := List.eq_nil_of_length_eq_zero (by simpa using hl)
      subst hys
      have hr2 := run_append_owned_none (P := P) w base t ty e i size ht hi1 _ n xs hown
      rw [hr2] at hr
      simp only [Result.ok.injEq] at hr
      rw [← hr.2]
      exact hown
    | some a =>
      have hn : ∀ j u, ys[j]? = some u → w.cell? (a.add j) = some u := fun j u hu => k6 a rfl j u hu
      by_cases hroom : n + m ≤ cap0
      · have hfit : n * i.size + ys.length ≤ cur.size := by rw [hl, hcs, hs, ← Nat.add_mul]; exact Nat.mul_le_mul_right _ hroom
        have hr2 := run_append_room (P := P) w t ty e i ht hi1 g n cap0 cur hg a m ucap ys (by rw [hs]; exact hl) hn h1 hroom hfit
        rw [hr2] at hr
        simp only [Result.ok.injEq] at hr
        rw [← hr.2]
        refine ⟨hown.1, .inr ⟨g, cap0, _, rfl, hbg, setRow_heap w g cur _ e _ hg, hnc, hcm, ?_, ?_⟩⟩
        · simp only [List.size_toArray, List.length_append, List.length_take, List.length_drop, Array.length_toList]
          rw [hs] at hfit ⊢
          omega
        · have hlx : xs.length = n * size := hown.1
          rw [hs]
          have e1 : cur.toList.take (n * size) = xs := by rw [← hlx]; rw [← hlx] at htake; exact htake
          rw [e1]
          show (xs ++ ys ++ cur.toList.drop (n * size + ys.length)).take (n * size) = xs
          rw [List.append_assoc, ← hlx, List.take_left]
      · have holds : ∀ j u, xs[j]? = some u → w.cell? ((⟨g, 0, none⟩ : Addr).add j) = some u := @World.ownsRow.cells w base e size _ n xs hown g rfl
        have hr2 := run_append_grow (P := P) w t ty e i z ht hi1 hz ⟨g, 0, none⟩ n cap0 xs (by rw [hs]; exact hown.1) holds a m ucap ys (by rw [hs]; exact hl) hn (by omega) (by simp only [maxLen] at hb; omega) (by rw [hby]; exact growslice_fits (by omega) hbytes)
        rw [hr2] at hr
        simp only [Result.ok.injEq] at hr
        rw [← hr.2]
        exact Ext.owns ((Ext.drew w).trans (Ext.alloc _ _)) hown

theorem wpList_append_keep {ops : Array Oper} {rest : List Oper} {o : Oper} {a : Act} {w : World} {Q : Exit → Act → World → Prop} (hgd : o.guard = none) (s x : Operand) (t : Nat)
    (ho : o.op = .call { callee := .builtin .append, args := #[s, x], argTypes := #[t, t] }) (base e : Nat) (ht : P.underlying t = some (.slice e))
    (hi : (P.info? e).map (fun i => (i.zero, i.size, i.bytes)) = some (some (.int .u8 0), 1, 1))
    {v : Value} {l1 : List UInt8} (hs : a.eval s = v) (hown : Own w base e v l1) {u : Value} {l2 : List UInt8} (hx : a.eval x = u) (hsl : Byt w u l2)
    (N : Nat) (hN : N = l1.length + l2.length) (hb : N ≤ 140737488355328) (hbase : base ≤ w.heap.size)
    (h : ∀ ao cap w', Own w' base e (.slice ao N cap) (l1 ++ l2) → Own w' base e v l1 → w.grownBy w' v.ownBlock → Below base w w' → wpList P ops Q rest (a.put o.dst (.slice ao N cap)) w') :
    wpList P ops Q (o :: rest) a w := by
  subst hN
  obtain ⟨ao, cap, w', hr, h2, h3, h4, h5⟩ := run_append_keep (P := P) base t o.type e ht hi rfl (by decide) hown hsl (bv_one _) (by simp [maxLen]; omega) (by omega) hbase
  refine wpList_plain hgd fun K hK => ?_
  unfold Oper.wp execOp
  subst hs hx
  simp only [ho, resolve, invoke, builtin, Sem.run_bind, Sem.run_pure, Result.andThen_ok, List.map_toArray, List.map_cons, List.map_nil, hr]
  exact hK _ _ (h ao cap w' (by unfold Own; simpa using h2) h3 h4 h5)
end
/-- What lies in younger blocks than the row that grows is as it was. -/
theorem own_young {w w' : World} {b e B : Nat} {u v : Value} {l : List UInt8} (h : Own w b e v l) (hu : ∀ g, u.ownBlock = some g → g < B) (hB : B ≤ b) (hg : w.grownBy w' u.ownBlock) : Own w' b e v l := by
  refine World.ownsRow.kept h hg ?_
  cases hv : v.ownBlock with
  | none => exact .inl rfl
  | some k =>
    right
    have := World.ownsRow.lt h k hv
    intro e
    have := hu k e.symm
    omega
theorem obj_young {w w' : World} {b B : Nat} {u : Value} {o : Obj} (h : w.heap[b]? = some o) (hu : ∀ g, u.ownBlock = some g → g < B) (hB : B ≤ b) (hg : w.grownBy w' u.ownBlock) : w'.heap[b]? = some o := by
  rw [hg.block b (Array.getElem?_eq_some_iff.1 h).1, h]
  intro e
  have := hu b e.symm
  omega
/-- Rows of one type lie in other blocks than rows of another. -/
theorem rows_far {w w' : World} {b b' e f s1 s2 n1 n2 : Nat} {u v : Value} {xs ys : List Value} (h : w.ownsRow b e s1 v n1 xs) (hu : w.ownsRow b' f s2 u n2 ys) (hne : e ≠ f) (hg : w.grownBy w' u.ownBlock) : w'.ownsRow b e s1 v n1 xs := by
  refine World.ownsRow.kept h hg ?_
  rcases h.2 with ⟨rfl, _⟩ | ⟨g, cap, cur, rfl, _, hgg, _⟩
  · exact .inl rfl
  · right
    rcases hu.2 with ⟨rfl, _⟩ | ⟨g2, cap2, cur2, rfl, _, hg2, _⟩
    · simp [Value.ownBlock]
    · simp only [Value.ownBlock, ne_eq, Option.some.injEq]
      rintro rfl
      rw [hgg] at hg2
      simp at hg2
      exact hne hg2.2
end Go.Tum
