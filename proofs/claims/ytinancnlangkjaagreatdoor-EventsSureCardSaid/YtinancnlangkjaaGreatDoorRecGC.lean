/- Package record: All.
Package record: Same; the document's Large, Ints.
Rows of frames: a value and a list of bytes each.
An append leaves what it appends to readable as it was.
Rows of records. -/
import Derived.Test.YtinancnlangkjaaGreatDoorRecGB
import Derived.Test.YtinancnlangkjaaGreatDoorRecGA
import Derived.Test.YtinancnlangkjaaGreatDoorOpen
import Derived.Test.YtinancnlangkjaaGreatDoorLib
set_option maxRecDepth 100000
namespace Go.Proofs.YtinancnlangkjaaGreatDoor
open Go.RowKit Go.Tum Go.Tum.Crc Go.Tum.Vint

def recSame (a b : Rc) : Bool := decide (a = b)
theorem recSame_eq (a b : Rc) : recSame a b = ((a.kind == b.kind) && ((a.n == b.n) && (a.text == b.text))) := by
  unfold recSame
  cases a; cases b
  simp only [Rc.mk.injEq]
  rw [Bool.eq_iff_iff]; simp
theorem str_inj {a b : List UInt8} : str a = str b ↔ a = b := ⟨fun h => by rw [← str_data a, h, str_data b], fun h => by rw [h]⟩

def largeB (r : Rc) : Bool := decide (100 < r.n.length) || decide (300 < r.text.length)
abbrev iv (n : Nat) : Value := .int .i64 (n : Int)
theorem ints_any (u v : Value) (l m : List Nat) (w : World) (hb : Vec iv w u l) (hc : Vec iv w v m) :
    Calls Tryz.prog 19 #[u, v] w fun e w' => e = .returned (.bool (l == m)) ∧ Ext w w' := by
  obtain ⟨ao, cap, rfl, hle, hm, hnn, hcell⟩ := hb.open
  obtain ⟨bo, cbp, rfl, hle2, hm2, hnn2, hcell2⟩ := hc.open
  clear hb hc
  have HC := hid hcell
  have HC2 := hid hcell2
  clear hcell hcell2
  by_cases hlen : l.length = m.length
  · have hne : ((l.length : Int) != (m.length : Int)) = false := by simp [hlen]
    go_enter Tryz.func19, Tryz.ntmps19
    have HL := hid hlen
    clear hlen
    go_wp2
    go_loopw [5] (fun i wr => ∃ k : Nat, k ≤ l.length ∧ i = .int .i64 k ∧ Hid (l.take k = m.take k) ∧ ∃ n, wr = w.drewN n) (fun i _ => l.length - (intOf i).toNat)
    case atStart => exact ⟨0, by omega, rfl, hid rfl, 0, rfl⟩
    case round =>
      obtain ⟨k, hk, rfl, HE, n, rfl⟩ := hrel
      by_cases hlt : k < l.length
      · obtain ⟨a, rfl⟩ := hnn (by omega)
        have hlt2 : k < m.length := by rw [← HL.out]; exact hlt
        obtain ⟨b, rfl⟩ := hnn2 (by omega)
        have hc1 := HC.out a rfl k hlt
        have hc2 := HC2.out b rfl k hlt2
        have hi1 : (k : Int) < l.length := by omega
        have hi2 : (k : Int) < m.length := by omega
        go_wp2
        by_cases he : l[k] = m[k]
        · have ht : ((l[k] : Int) != (m[k] : Int)) = false := by simp [he]
          go_quiet (fail)
          go_wp2
          go_roundw
          case rel => exact ⟨k + 1, by omega, by go_num, hid (by rw [List.take_succ_eq_append_getElem hlt, List.take_succ_eq_append_getElem hlt2, HE.out, he]), _, rfl⟩
          case measure => simp [intOf]; omega
        · have ht : ((l[k] : Int) != (m[k] : Int)) = true := by
            simp; intro e; exact he (by omega)
          go_quiet (fail)
          go_wp2
          go_ret
          refine ⟨?_, (Ext.drewN _ _).trans (Ext.drewN _ _)⟩
          have : (l == m) = false := by
            rw [beq_eq_false_iff_ne]; intro e; subst e; exact he rfl
          rw [this]; rfl
      · obtain rfl : k = l.length := by omega
        go_wp2
        go_ret
        refine ⟨?_, Ext.drewN _ _⟩
        have : (l == m) = true := by
          have := HE.out
          rw [List.take_length, HL.out, List.take_length] at this
          rw [this]; simp
        rw [this]; rfl
  · have hne : ((l.length : Int) != (m.length : Int)) = true := by simp; omega
    have hf : (l == m) = false := by rw [beq_eq_false_iff_ne]; intro e; exact hlen (by rw [e])
    have HF := hid hf
    clear hf
    go_enter Tryz.func19, Tryz.ntmps19
    go_wp2
    go_ret
    exact ⟨by rw [HF.out]; rfl, Ext.refl _⟩
end Go.Proofs.YtinancnlangkjaaGreatDoor

set_option maxRecDepth 100000
namespace Go.Proofs.YtinancnlangkjaaGreatDoor
open Go.RowKit Go.Tum Go.Tum.Crc

abbrev fcells (p : Fr × Value) : List Value := [.int .u8 (p.1.kind.toNat : Int), p.2]
/-- The slice v holds the frames l. -/
def Frs (w : World) (v : Value) (l : List Fr) : Prop := ∃ m : List (Fr × Value), m.map (·.1) = l ∧ RowsOf w 2 v fcells m ∧ ∀ p ∈ m, Byt w p.2 p.1.body
theorem Frs.ext {w w' : World} {v : Value} {l : List Fr} (h : Frs w v l) (k : Ext w w') : Frs w' v l := by
  obtain ⟨m, h1, h2, h3⟩ := h
  exact ⟨m, h1, h2.ext k, fun p hp => (h3 p hp).ext k⟩
theorem Frs.nil (w : World) : Frs w (.slice none 0 0) [] := ⟨[], rfl, RowsOf.nil _ _ _, fun p hp => absurd hp (by simp)⟩
/-- The call's own row of frames: blocks of type T; the bodies lie in blocks of bytes. -/
def FrsO (w : World) (base T : Nat) (v : Value) (l : List Fr) : Prop := ∃ m : List (Fr × Value), m.map (·.1) = l ∧ w.ownsRow base T 2 v m.length (m.flatMap fcells) ∧ ∀ p ∈ m, Own w base 5 p.2 p.1.body
theorem FrsO.frs {w : World} {base T : Nat} {v : Value} {l : List Fr} (h : FrsO w base T v l) : Frs w v l := by
  obtain ⟨m, h1, h2, h3⟩ := h
  exact ⟨m, h1, ⟨fun _ _ => rfl, Sl.of_owns h2⟩, fun p hp => (h3 p hp).byt⟩
theorem FrsO.ext {w w' : World} {base T : Nat} {v : Value} {l : List Fr} (h : FrsO w base T v l) (k : Ext w w') : FrsO w' base T v l := by
  obtain ⟨m, h1, h2, h3⟩ := h
  exact ⟨m, h1, k.owns h2, fun p hp => (h3 p hp).ext k⟩
theorem FrsO.mono {w : World} {b b' T : Nat} {v : Value} {l : List Fr} (h : FrsO w b T v l) (hb : b' ≤ b) : FrsO w b' T v l := by
  obtain ⟨m, h1, h2, h3⟩ := h
  exact ⟨m, h1, owns_mono h2 hb, fun p hp => (h3 p hp).mono hb⟩
theorem FrsO.nil (w : World) (base T : Nat) : FrsO w base T (.slice none 0 0) [] := ⟨[], rfl, World.ownsRow_nil _ _ _ _, fun p hp => absurd hp (by simp)⟩
theorem FrsO.lit0 (w : World) (base T : Nat) (hB : base ≤ w.heap.size) : FrsO (w.alloc (.cells #[] T)) base T (.slice (some ⟨w.heap.size, 0, none⟩) 0 0) [] :=
  ⟨[], rfl, by simpa using World.ownsRow_lit (base := base) (e := T) (size := 2) w #[] 0 hB (by simp [maxLen]) (by simp), fun p hp => absurd hp (by simp)⟩
theorem FrsO.len {w : World} {b T : Nat} {ao : Option Addr} {n cap : Nat} {l : List Fr} (h : FrsO w b T (.slice ao n cap) l) : n = l.length := by
  obtain ⟨m, rfl, h2, _⟩ := h
  rcases h2.2 with ⟨e, e2⟩ | ⟨g, c, cur, e, _⟩
  · cases e; simp [e2]
  · cases e; simp

theorem FrsO.open {w : World} {b T : Nat} {v : Value} {l : List Fr} (h : FrsO w b T v l) : ∃ ao cap, v = .slice ao l.length cap := by
  obtain ⟨m, rfl, h2, _⟩ := h
  rcases h2.2 with ⟨e, e2⟩ | ⟨g, c, cur, e, _⟩
  · subst e; exact ⟨none, 0, by simp [e2]⟩
  · subst e; exact ⟨_, c, by simp; rfl⟩

/-- Bytes lie in other blocks than a row of another type. -/
theorem own_far {w w' : World} {b b' e f size n : Nat} {u v : Value} {xs : List Value} {l : List UInt8} (h : Own w b e v l) (hu : w.ownsRow b' f size u n xs) (hne : e ≠ f) (hg : w.grownBy w' u.ownBlock) : Own w' b e v l := by
  refine ⟨h.1, ?_⟩
  rcases h.2 with hn | ⟨g', cap', cur, hv, hb, hgg, rest⟩
  · exact .inl hn
  · refine .inr ⟨g', cap', cur, hv, hb, ?_, rest⟩
    rw [hg.block g' (Array.getElem?_eq_some_iff.1 hgg).1, hgg]
    rcases hu.2 with ⟨e1, _⟩ | ⟨g, c, cur2, e1, _, hg2, _⟩
    · subst e1; simp [Value.ownBlock]
    · subst e1
      simp only [Value.ownBlock, ne_eq, Option.some.injEq]
      rintro rfl
      rw [hgg] at hg2
      simp at hg2
      exact hne hg2.2

section
variable {P : Program}
/-- 'append(s, x)': s the call's own row of frames, x a frame in a block of its own. -/
theorem wpList_append_fr {ops : Array Oper} {rest : List Oper} {o : Oper} {a : Act} {w : World} {Q : Exit → Act → World → Prop} (hgd : o.guard = none) (s x : Operand) (t : Nat)
    (ho : o.op = .call { callee := .builtin .append, args := #[s, x], argTypes := #[t, t] }) (base T : Nat) (ht : P.underlying t = some (.slice T))
    (hi : (P.info? T).map (fun i => (i.zero, i.size, i.bytes)) = some (some (.agg #[.int .u8 0, .slice none 0 0]), 2, 32)) (hT : 5 ≠ T)
    {v : Value} {l : List Fr} (hs : a.eval s = v) (hown : FrsO w base T v l) {g : Nat} {y : Fr} {r : Value} (hx : a.eval x = .slice (some ⟨g, 0, none⟩) 1 1)
    {ty : TypeId} {fr : Nat × Nat} (hblk : w.heap[g]? = some (.cells #[.int .u8 (y.kind.toNat : Int), r] ty fr)) (hr : Own w base 5 r y.body)
    (N : Nat) (hN : N = l.length + 1) (hb : N * 32 ≤ 140737488355328) (hbase : base ≤ w.heap.size)
    (h : ∀ ao cap w', FrsO w' base T (.slice ao N cap) (l ++ [y]) → w.grownBy w' v.ownBlock → Below base w w' → wpList P ops Q rest (a.put o.dst (.slice ao N cap)) w') :
    wpList P ops Q (o :: rest) a w := by
  subst hN
  obtain ⟨m, rfl, h2, h3⟩ := hown
  have hone : r.oneCell' = true := by
    obtain ⟨ao, cap, rfl, _⟩ := hr.byt.open
    rfl
  have hsl : Sl w 2 (.slice (some ⟨g, 0, none⟩) 1 1) 1 [.int .u8 (y.kind.toNat : Int), r] := by
    refine ⟨rfl, some ⟨g, 0, none⟩, 1, rfl, Nat.le_refl _, by simp [maxLen], (fun h => by cases h), fun a ha j u hu => ?_⟩
    cases ha
    have e1 : (⟨g, 0, none⟩ : Addr).add j = ⟨g, j, none⟩ := by unfold Addr.add; split <;> simp_all
    rw [e1, cell_of_row _ _ _ _ _ _ hblk]
    simpa using hu
  have hlen : (m.map (·.1)).length = m.length := by simp
  rw [hlen] at hb h
  refine wpList_append_sl hgd s x t ho base T ht hi rfl (by decide) hs h2 hx hsl (by
    intro y' hy'
    simp at hy'
    rcases hy' with rfl | rfl
    · rfl
    · exact hone) (by simp [maxLen]; omega) (by omega) hbase fun ao cap w' k1 k2 k3 => ?_
  refine h ao cap w' ⟨m ++ [(y, r)], by simp, by simpa using k1, ?_⟩ k2 k3
  intro p hp
  rcases List.mem_append.1 hp with hp | hp
  · exact own_far (h3 p hp) h2 hT k2
  · simp at hp; subst hp
    exact own_far hr h2 hT k2

/-- The same of rows alone. -/
theorem wpList_append_row2 {ops : Array Oper} {rest : List Oper} {o : Oper} {a : Act} {w : World} {Q : Exit → Act → World → Prop} (hgd : o.guard = none) (s x : Operand) (t : Nat)
    (ho : o.op = .call { callee := .builtin .append, args := #[s, x], argTypes := #[t, t] }) (base T : Nat) (ht : P.underlying t = some (.slice T))
    (hi : (P.info? T).map (fun i => (i.zero, i.size, i.bytes)) = some (some (.agg #[.int .u8 0, .slice none 0 0]), 2, 32))
    {v : Value} {n : Nat} {xs : List Value} (hs : a.eval s = v) (hown : w.ownsRow base T 2 v n xs) {g : Nat} {p r : Value} (hx : a.eval x = .slice (some ⟨g, 0, none⟩) 1 1)
    {ty : TypeId} {fr : Nat × Nat} (hblk : w.heap[g]? = some (.cells #[p, r] ty fr)) (hp : p.oneCell' = true) (hr : r.oneCell' = true)
    (hb : (n + 1) * 32 ≤ 140737488355328) (hbase : base ≤ w.heap.size)
    (h : ∀ ao cap w', w'.ownsRow base T 2 (.slice ao (n + 1) cap) (n + 1) (xs ++ [p, r]) → w.grownBy w' v.ownBlock → Below base w w' → wpList P ops Q rest (a.put o.dst (.slice ao (n + 1) cap)) w') :
    wpList P ops Q (o :: rest) a w := by
  have hsl : Sl w 2 (.slice (some ⟨g, 0, none⟩) 1 1) 1 [p, r] := by
    refine ⟨rfl, some ⟨g, 0, none⟩, 1, rfl, Nat.le_refl _, by simp [maxLen], (fun h => by cases h), fun a ha j u hu => ?_⟩
    cases ha
    have e1 : (⟨g, 0, none⟩ : Addr).add j = ⟨g, j, none⟩ := by unfold Addr.add; split <;> simp_all
    rw [e1, cell_of_row _ _ _ _ _ _ hblk]
    simpa using hu
  refine wpList_append_sl hgd s x t ho base T ht hi rfl (by decide) hs hown hx hsl (by
      intro y' hy'
      simp at hy'
      rcases hy' with rfl | rfl
      · exact hp
      · exact hr) (by simp [maxLen]; omega) (by omega) hbase fun ao cap w' k1 k2 k3 => h ao cap w' k1 k2 k3

theorem fcells_one {w : World} : ∀ {q : List (Fr × Value)}, (∀ p ∈ q, Byt w p.2 p.1.body) → ∀ y ∈ q.flatMap fcells, y.oneCell' = true := by
  intro q hq y hy
  obtain ⟨p, hp, hy⟩ := List.mem_flatMap.1 hy
  simp at hy
  rcases hy with rfl | rfl
  · rfl
  · obtain ⟨ao, cap, e, _⟩ := (hq p hp).open
    rw [e]; rfl
/-- 'append(s, x...)' of frames. -/
theorem wpList_append_frows {ops : Array Oper} {rest : List Oper} {o : Oper} {a : Act} {w : World} {Q : Exit → Act → World → Prop} (hgd : o.guard = none) (s x : Operand) (t : Nat)
    (ho : o.op = .call { callee := .builtin .append, args := #[s, x], argTypes := #[t, t] }) (base T : Nat) (ht : P.underlying t = some (.slice T))
    (hi : (P.info? T).map (fun i => (i.zero, i.size, i.bytes)) = some (some (.agg #[.int .u8 0, .slice none 0 0]), 2, 32))
    {v : Value} {q1 : List (Fr × Value)} (hs : a.eval s = v) (hown : w.ownsRow base T 2 v q1.length (q1.flatMap fcells)) {u : Value} {q : List (Fr × Value)} (hx : a.eval x = u) (hrows : RowsOf w 2 u fcells q)
    (hB : ∀ p ∈ q, Byt w p.2 p.1.body) (N : Nat) (hN : N = q1.length + q.length) (hb : N * 32 ≤ 140737488355328) (hbase : base ≤ w.heap.size)
    (h : ∀ ao cap w', w'.ownsRow base T 2 (.slice ao N cap) (q1 ++ q).length ((q1 ++ q).flatMap fcells) → w.grownBy w' v.ownBlock → Below base w w' → wpList P ops Q rest (a.put o.dst (.slice ao N cap)) w') :
    wpList P ops Q (o :: rest) a w := by
  subst hN
  refine wpList_append_sl hgd s x t ho base T ht hi rfl (by decide) hs hown hx hrows.2 (fcells_one hB) (by simp [maxLen]; omega) (by omega) hbase fun ao cap w' k1 k2 k3 => ?_
  exact h ao cap w' (by rw [List.length_append, List.flatMap_append]; exact k1) k2 k3
end

theorem ret_all {x : Value} {n m e f : Int} (h : n = m) (k : e = f) : Ending.returned (.tuple #[x, .int .i64 n, .int .i64 e]) = .returned (.tuple #[x, .int .i64 m, .int .i64 f]) := by rw [h, k]

/-- What All answers. -/
def AllR (T : Nat) (w : World) (b : List UInt8) (e : Ending) (w' : World) : Prop :=
  ∃ r, e = .returned (.tuple #[r, .int .i64 ((fall b).2.1 : Nat), .int .i64 (fall b).2.2]) ∧ FrsO w' w.heap.size T r (fall b).1 ∧ Ext w w'
end Go.Proofs.YtinancnlangkjaaGreatDoor

set_option maxRecDepth 100000
namespace Go.Tum
open Go.RowKit

section
variable {P : Program}
theorem run_append_keep (base t ty e : Nat) {z : Value} {size bytes : Nat} (ht : P.underlying t = some (.slice e))
    (hi : (P.info? e).map (fun i => (i.zero, i.size, i.bytes)) = some (some z, size, bytes)) (hzs : z.cells.size = size) (hsz : 0 < size)
    {w : World} {v : Value} {n : Nat} {xs : List Value} (hown : w.ownsRow base e size v n xs) {u : Value} {m : Nat} {ys : List Value} (hsl : Sl w size u m ys) (h1 : ∀ y ∈ ys, y.oneCell' = true)
    (hb : n + m ≤ maxLen) (hbytes : (n + m) * bytes ≤ 140737488355328) (hbase : base ≤ w.heap.size) :
    ∃ ao cap w', (Builtin.append_ #[t, t] ty #[v, u]).run P w = .ok (.slice ao (n + m) cap) w' ∧ w'.ownsRow base e size (.slice ao (n + m) cap) (n + m) (xs ++ ys) ∧ w'.ownsRow base e size v n xs ∧ w.grownBy w' v.ownBlock ∧ Below base w w' := by
  obtain ⟨ao, cap, w', hr, h2, h3, h4⟩ := run_append_sl (P := P) base t ty e ht hi hzs hsz hown hsl h1 hb hbytes hbase
  refine ⟨ao, cap, w', hr, h2, ?_, h3, h4⟩
  obtain ⟨i, hi1, hz, hs, hby⟩ := info_parts hi
  rcases hown.2 with ⟨rfl, rfl⟩ | ⟨g, cap0, cur, rfl, hbg, hg, hnc, hcm, hcs, htake⟩
  · have hx : xs = [] := List.eq_nil_of_length_eq_zero (by simpa using hown.1)
    subst hx
    exact World.ownsRow_nil _ _ _ _
  · obtain ⟨hl, uo, ucap, rfl, k3, k4, k5, k6⟩ := hsl
    cases uo with
    | none =>
      have := k5 rfl
      subst this
      obtain rfl : m = 0 := by omega
      have hys : ys = [] := List.eq_nil_of_length_eq_zero (by simpa using hl)
      subst hys
      have hr2 := run_append_owned_none (P := P) w base t ty e i size ht hi1 _ n xs hown
      rw [hr2] at hr
      simp only [Result.ok.injEq] at hr
      rw [← hr.2]
      exact hown
    | some a =>
      have hn : ∀ j u, ys[j]? = some u → w.cell? (a.add j) = some u := fun j u hu => k6 a rfl j u hu
      by_cases hroom : n + m ≤ cap0
      · have hfit : n * i.size + ys.length ≤ cur.size := by rw [hl, hcs, hs, ← Nat.add_mul]; exact Nat.mul_le_mul_right _ hroom
        have hr2 := run_append_room (P := P) w t ty e i ht hi1 g n cap0 cur hg a m ucap ys (by rw [hs]; exact hl) hn h1 hroom hfit
        rw [hr2] at hr
        simp only [Result.ok.injEq] at hr
        rw [← hr.2]
        refine ⟨hown.1, .inr ⟨g, cap0, _, rfl, hbg, setRow_heap w g cur _ e _ hg, hnc, hcm, ?_, ?_⟩⟩
        · simp only [List.size_toArray, List.length_append, List.length_take, List.length_drop, Array.length_toList]
          rw [hs] at hfit ⊢
          omega
        · have hlx : xs.length = n * size := hown.1
          rw [hs]
          have e1 : cur.toList.take (n * size) = xs := by rw [← hlx]; rw [← hlx] at htake; exact htake
          rw [e1]
          show (xs ++ ys ++ cur.toList.drop (n * size + ys.length)).take (n * size) = xs
          rw [List.append_assoc, ← hlx, List.take_left]
      · have holds : ∀ j u, xs[j]? = some u → w.cell? ((⟨g, 0, none⟩ : Addr).add j) = some u := @World.ownsRow.cells w base e size _ n xs hown g rfl
        have hr2 := run_append_grow (P := P) w t ty e i z ht hi1 hz ⟨g, 0, none⟩ n cap0 xs (by rw [hs]; exact hown.1) holds a m ucap ys (by rw [hs]; exact hl) hn (by omega) (by simp only [maxLen] at hb; omega) (by rw [hby]; exact growslice_fits (by omega) hbytes)
        rw [hr2] at hr
        simp only [Result.ok.injEq] at hr
        rw [← hr.2]
        exact Ext.owns ((Ext.drew w).trans (Ext.alloc _ _)) hown

theorem wpList_append_keep {ops : Array Oper} {rest : List Oper} {o : Oper} {a : Act} {w : World} {Q : Exit → Act → World → Prop} (hgd : o.guard = none) (s x : Operand) (t : Nat)
    (ho : o.op = .call { callee := .builtin .append, args := #[s, x], argTypes := #[t, t] }) (base e : Nat) (ht : P.underlying t = some (.slice e))
    (hi : (P.info? e).map (fun i => (i.zero, i.size, i.bytes)) = some (some (.int .u8 0), 1, 1))
    {v : Value} {l1 : List UInt8} (hs : a.eval s = v) (hown : Own w base e v l1) {u : Value} {l2 : List UInt8} (hx : a.eval x = u) (hsl : Byt w u l2)
    (N : Nat) (hN : N = l1.length + l2.length) (hb : N ≤ 140737488355328) (hbase : base ≤ w.heap.size)
    (h : ∀ ao cap w', Own w' base e (.slice ao N cap) (l1 ++ l2) → Own w' base e v l1 → w.grownBy w' v.ownBlock → Below base w w' → wpList P ops Q rest (a.put o.dst (.slice ao N cap)) w') :
    wpList P ops Q (o :: rest) a w := by
  subst hN
  obtain ⟨ao, cap, w', hr, h2, h3, h4, h5⟩ := run_append_keep (P := P) base t o.type e ht hi rfl (by decide) hown hsl (bv_one _) (by simp [maxLen]; omega) (by omega) hbase
  refine wpList_plain hgd fun K hK => ?_
  unfold Oper.wp execOp
  subst hs hx
  simp only [ho, resolve, invoke, builtin, Sem.run_bind, Sem.run_pure, Result.andThen_ok, List.map_toArray, List.map_cons, List.map_nil, hr]
  exact hK _ _ (h ao cap w' (by unfold Own; simpa using h2) h3 h4 h5)
end
/-- What lies in younger blocks than the row that grows is as it was. -/
theorem own_young {w w' : World} {b e B : Nat} {u v : Value} {l : List UInt8} (h : Own w b e v l) (hu : ∀ g, u.ownBlock = some g → g < B) (hB : B ≤ b) (hg : w.grownBy w' u.ownBlock) : Own w' b e v l := by
  refine World.ownsRow.kept h hg ?_
  cases hv : v.ownBlock with
  | none => exact .inl rfl
  | some k =>
    right
    have := World.ownsRow.lt h k hv
    intro e
    have := hu k e.symm
    omega
theorem obj_young {w w' : World} {b B : Nat} {u : Value} {o : Obj} (h : w.heap[b]? = some o) (hu : ∀ g, u.ownBlock = some g → g < B) (hB : B ≤ b) (hg : w.grownBy w' u.ownBlock) : w'.heap[b]? = some o := by
  rw [hg.block b (Array.getElem?_eq_some_iff.1 h).1, h]
  intro e
  have := hu b e.symm
  omega
/-- Rows of one type lie in other blocks than rows of another. -/
theorem rows_far {w w' : World} {b b' e f s1 s2 n1 n2 : Nat} {u v : Value} {xs ys : List Value} (h : w.ownsRow b e s1 v n1 xs) (hu : w.ownsRow b' f s2 u n2 ys) (hne : e ≠ f) (hg : w.grownBy w' u.ownBlock) : w'.ownsRow b e s1 v n1 xs := by
  refine World.ownsRow.kept h hg ?_
  rcases h.2 with ⟨rfl, _⟩ | ⟨g, cap, cur, rfl, _, hgg, _⟩
  · exact .inl rfl
  · right
    rcases hu.2 with ⟨rfl, _⟩ | ⟨g2, cap2, cur2, rfl, _, hg2, _⟩
    · simp [Value.ownBlock]
    · simp only [Value.ownBlock, ne_eq, Option.some.injEq]
      rintro rfl
      rw [hgg] at hg2
      simp at hg2
      exact hne hg2.2
end Go.Tum

set_option maxRecDepth 100000
namespace Go.Proofs.YtinancnlangkjaaGreatDoor
open Go.RowKit Go.Tum Go.Tum.Crc Go.Tum.Vint

abbrev rcells (p : Rc × Value) : List Value := [.int .i64 p.1.kind, p.2, .string (str p.1.text)]
/-- The slice v holds the records l. -/
def Rcs (w : World) (v : Value) (l : List Rc) : Prop := ∃ m : List (Rc × Value), m.map (·.1) = l ∧ RowsOf w 3 v rcells m ∧ ∀ p ∈ m, Vec uv w p.2 p.1.n
theorem Rcs.ext {w w' : World} {v : Value} {l : List Rc} (h : Rcs w v l) (k : Ext w w') : Rcs w' v l := by
  obtain ⟨m, h1, h2, h3⟩ := h
  exact ⟨m, h1, h2.ext k, fun p hp => (h3 p hp).ext k⟩
/-- The call's own row of records: blocks of type T; the numbers lie in blocks of numbers. -/
def RcsO (w : World) (base T : Nat) (v : Value) (l : List Rc) : Prop := ∃ m : List (Rc × Value), m.map (·.1) = l ∧ w.ownsRow base T 3 v m.length (m.flatMap rcells) ∧ ∀ p ∈ m, OwV uv w base 32 p.2 p.1.n
theorem RcsO.rcs {w : World} {base T : Nat} {v : Value} {l : List Rc} (h : RcsO w base T v l) : Rcs w v l := by
  obtain ⟨m, h1, h2, h3⟩ := h
  exact ⟨m, h1, ⟨fun _ _ => rfl, Sl.of_owns h2⟩, fun p hp => (h3 p hp).vec⟩
theorem RcsO.ext {w w' : World} {base T : Nat} {v : Value} {l : List Rc} (h : RcsO w base T v l) (k : Ext w w') : RcsO w' base T v l := by
  obtain ⟨m, h1, h2, h3⟩ := h
  exact ⟨m, h1, k.owns h2, fun p hp => (h3 p hp).ext k⟩
theorem RcsO.mono {w : World} {b b' T : Nat} {v : Value} {l : List Rc} (h : RcsO w b T v l) (hb : b' ≤ b) : RcsO w b' T v l := by
  obtain ⟨m, h1, h2, h3⟩ := h
  exact ⟨m, h1, owns_mono h2 hb, fun p hp => (h3 p hp).mono hb⟩
theorem RcsO.nil (w : World) (base T : Nat) : RcsO w base T (.slice none 0 0) [] := ⟨[], rfl, World.ownsRow_nil _ _ _ _, fun p hp => absurd hp (by simp)⟩
theorem RcsO.lit0 (w : World) (base T : Nat) (hB : base ≤ w.heap.size) : RcsO (w.alloc (.cells #[] T)) base T (.slice (some ⟨w.heap.size, 0, none⟩) 0 0) [] :=
  ⟨[], rfl, by simpa using World.ownsRow_lit (base := base) (e := T) (size := 3) w #[] 0 hB (by simp [maxLen]) (by simp), fun p hp => absurd hp (by simp)⟩
theorem RcsO.len {w : World} {b T : Nat} {ao : Option Addr} {n cap : Nat} {l : List Rc} (h : RcsO w b T (.slice ao n cap) l) : n = l.length := by
  obtain ⟨m, rfl, h2, _⟩ := h
  rcases h2.2 with ⟨e, e2⟩ | ⟨g, c, cur, e, _⟩
  · cases e; simp [e2]
  · cases e; simp
theorem RcsO.open {w : World} {b T : Nat} {v : Value} {l : List Rc} (h : RcsO w b T v l) : ∃ ao cap, v = .slice ao l.length cap := by
  obtain ⟨m, rfl, h2, _⟩ := h
  rcases h2.2 with ⟨e, e2⟩ | ⟨g, c, cur, e, _⟩
  · subst e; exact ⟨none, 0, by simp [e2]⟩
  · subst e; exact ⟨_, c, by simp; rfl⟩
/-- Records lie in other blocks than a row of another type. -/
theorem RcsO.far {w w' : World} {b b' T f size n : Nat} {u v : Value} {xs : List Value} {l : List Rc} (h : RcsO w b T v l) (hu : w.ownsRow b' f size u n xs) (h1 : T ≠ f) (h2 : 32 ≠ f) (hg : w.grownBy w' u.ownBlock) : RcsO w' b T v l := by
  obtain ⟨m, hm, k2, k3⟩ := h
  exact ⟨m, hm, rows_far k2 hu h1 hg, fun p hp => rows_far (k3 p hp) hu h2 hg⟩

section
variable {P : Program}
/-- 'append(s, x)': s the call's own row of records, x a record in a block of its own. -/
theorem wpList_append_rc {ops : Array Oper} {rest : List Oper} {o : Oper} {a : Act} {w : World} {Q : Exit → Act → World → Prop} (hgd : o.guard = none) (s x : Operand) (t : Nat)
    (ho : o.op = .call { callee := .builtin .append, args := #[s, x], argTypes := #[t, t] }) (base T : Nat) (ht : P.underlying t = some (.slice T))
    (hi : (P.info? T).map (fun i => (i.zero, i.size, i.bytes)) = some (some (.agg #[.int .i64 0, .slice none 0 0, .string ⟨#[]⟩]), 3, 48)) (hT : 32 ≠ T)
    {v : Value} {l : List Rc} (hs : a.eval s = v) (hown : RcsO w base T v l) {g : Nat} {y : Rc} {r : Value} (hx : a.eval x = .slice (some ⟨g, 0, none⟩) 1 1)
    {ty : TypeId} {fr : Nat × Nat} (hblk : w.heap[g]? = some (.cells #[.int .i64 y.kind, r, .string (str y.text)] ty fr)) (hr : OwV uv w base 32 r y.n)
    (N : Nat) (hN : N = l.length + 1) (hb : N * 48 ≤ 140737488355328) (hbase : base ≤ w.heap.size)
    (h : ∀ ao cap w', RcsO w' base T (.slice ao N cap) (l ++ [y]) → w.grownBy w' v.ownBlock → Below base w w' → wpList P ops Q rest (a.put o.dst (.slice ao N cap)) w') :
    wpList P ops Q (o :: rest) a w := by
  subst hN
  obtain ⟨m, rfl, h2, h3⟩ := hown
  have hone : r.oneCell' = true := by
    obtain ⟨ao, cap, rfl, _⟩ := hr.vec.open
    rfl
  have hsl : Sl w 3 (.slice (some ⟨g, 0, none⟩) 1 1) 1 [.int .i64 y.kind, r, .string (str y.text)] := by
    refine ⟨rfl, some ⟨g, 0, none⟩, 1, rfl, Nat.le_refl _, by simp [maxLen], (fun h => by cases h), fun a ha j u hu => ?_⟩
    cases ha
    have e1 : (⟨g, 0, none⟩ : Addr).add j = ⟨g, j, none⟩ := by unfold Addr.add; split <;> simp_all
    rw [e1, cell_of_row _ _ _ _ _ _ hblk]
    simpa using hu
  have hlen : (m.map (·.1)).length = m.length := by simp
  rw [hlen] at hb h
  refine wpList_append_sl hgd s x t ho base T ht hi rfl (by decide) hs h2 hx hsl (by
    intro y' hy'
    simp at hy'
    rcases hy' with rfl | rfl | rfl
    · rfl
    · exact hone
    · rfl) (by simp [maxLen]; omega) (by omega) hbase fun ao cap w' k1 k2 k3 => ?_
  refine h ao cap w' ⟨m ++ [(y, r)], by simp, by simpa using k1, ?_⟩ k2 k3
  intro p hp
  rcases List.mem_append.1 hp with hp | hp
  · exact rows_far (h3 p hp) h2 hT k2
  · simp at hp; subst hp
    exact rows_far hr h2 hT k2
end
theorem iv_one (x : Nat) : (iv x).oneCell' = true := rfl
theorem infoRc : (Tryz.prog.info? 86).map (fun i => (i.zero, i.size, i.bytes)) = some (some (.agg #[.int .i64 0, .slice none 0 0, .string ⟨#[]⟩]), 3, 48) := by kernel_rfl
theorem infoRRc : (Tryz.prog.info? 93).map (fun i => (i.zero, i.size, i.bytes)) = some (some (.agg #[.int .i64 0, .slice none 0 0, .string ⟨#[]⟩]), 3, 48) := by kernel_rfl
theorem infoInt : (Tryz.prog.info? 3).map (fun i => (i.zero, i.size, i.bytes)) = some (some (.int .i64 0), 1, 8) := by kernel_rfl

/-- What All answers. -/
def AllR5 (T : Nat) (w : World) (b : List UInt8) (e : Ending) (w' : World) : Prop :=
  ∃ v u, e = .returned (.tuple #[v, u, .int .i64 (rall 0 b).2.2]) ∧ RcsO w' w.heap.size T v (rall 0 b).1 ∧ OwV iv w' w.heap.size 3 u (rall 0 b).2.1 ∧ Ext w w'
end Go.Proofs.YtinancnlangkjaaGreatDoor

set_option maxRecDepth 100000
namespace Go.Proofs.YtinancnlangkjaaGreatDoor
open Go.RowKit Go.Tum Go.Tum.Crc Go.Tum.Vint

theorem ret_rall {x y : Value} {e f : Int} (k : e = f) : Ending.returned (.tuple #[x, y, .int .i64 e]) = .returned (.tuple #[x, y, .int .i64 f]) := by rw [k]

theorem far_rcs {α : Type} {f : α → Value} {w w' : World} {b b' e T : Nat} {u v : Value} {l : List α} {m : List Rc} (h : OwV f w b e v l) (ho : RcsO w b' T u m) (hne : e ≠ T) (hg : w.grownBy w' u.ownBlock) : OwV f w' b e v l := by
  obtain ⟨q, _, h2, _⟩ := ho
  exact rows_far h h2 hne hg

set_option maxRecDepth 100000 in
set_option maxHeartbeats 4000000 in
theorem all5_any (v : Value) (b : List UInt8) (w : World) (hb : Byt w v b) (hl : b.length ≤ 1048576) (ht : Tab w) :
    Calls Tryz.prog 51 #[v] w (AllR5 86 w b) := by
  obtain ⟨ao, cap, rfl, hle, hm, hnn, hcell⟩ := hb.open
  clear hcell
  have HN := hid hnn
  have HB := hid hb
  have HT := hid ht
  clear hb hnn ht
  go_enter Tryz.func51, Tryz.ntmps51
  go_wp2
  go_loopw [5, 6, 7] (fun o q i wr => ∃ (k : Nat) (m : List Rc) (es : List Nat) (bo : Option Addr) (cbp : Nat) (co : Option Addr) (ccp : Nat), k ≤ b.length ∧ i = .int .i64 k ∧ m.length ≤ k ∧ es.length ≤ k ∧ o = .slice bo m.length cbp ∧ q = .slice co es.length ccp ∧
      Hid (RcsO wr w.heap.size 86 (.slice bo m.length cbp) m) ∧ Hid (OwV iv wr w.heap.size 3 (.slice co es.length ccp) es) ∧
      Hid (rall 0 b = (m ++ (rall k (b.drop k)).1, es ++ (rall k (b.drop k)).2.1, (rall k (b.drop k)).2.2)) ∧ Hid (Ext w wr)) (fun _ _ i _ => b.length - (intOf i).toNat)
  case atStart => exact ⟨0, [], [], none, 0, none, 0, by omega, rfl, by simp, by simp, rfl, rfl, RcsO.nil _ _ _, World.ownsRow_nil _ _ _ _, hid (by simp), Ext.refl _⟩
  case round =>
    obtain ⟨k, m, es, bo, cbp, co, ccp, hk, rfl, hmk, hek, rfl, rfl, HO, HI, HV, HE⟩ := hrel
    by_cases hlt : k < b.length
    · obtain ⟨a, rfl⟩ := HN.out (by omega)
      have hp : Byt w (.slice (some (a.add k)) (b.length - k) (cap - k)) (b.drop k) := by
        have h := Byt.part HB.out k b.length (by omega) (Nat.le_refl _) (some (a.add k)) (by rw [if_neg (by omega)]; simp)
        rwa [List.take_of_length_le (by simp)] at h
      have HP := hid hp
      have hne : b.drop k ≠ [] := by intro h; have := congrArg List.length h; simp at this; omega
      obtain ⟨y, n, er, hfr⟩ : ∃ y n er, fread (b.drop k) = (y, n, er) := ⟨_, _, _, rfl⟩
      clear hp
      go_wp2_with fail
      refine (read_any _ (b.drop k) _ (HP.out.ext HE.out) (by simp; omega)).mono ?_
      rintro e w1 ⟨r, rfl, hr, hw1⟩
      rw [hfr] at hr ⊢
      simp only [] at hr
      have hE1 := HE.out.trans hw1
      obtain ⟨so, sc, rfl, -, -, -, -⟩ := hr.byt.open
      by_cases her : er = 0
      · subst her
        have hn := fread_le (b.drop k) (by rw [hfr])
        rw [hfr] at hn
        simp only [List.length_drop] at hn
        obtain ⟨z, er2, hrd⟩ : ∃ z er2, recRead y = (z, er2) := ⟨_, _, rfl⟩
        have HFR := hid hfr
        have HRD := hid hrd
        have HNE := hid hne
        have HO1 := hid (HO.out.ext hw1)
        have HI1 := hid (HI.out.ext hw1)
        have HR1 := hid (hr.mono HE.out.size)
        have HX1 := hid hE1
        clear hfr hrd hr hw1 hE1 hne
        obtain ⟨c0, c1, -⟩ := blk2 (heap_alloc_new w1 (.cells #[.int .u8 (y.kind.toNat : Int), .slice so y.body.length sc] 139))
        go_wp2_with fail
        have hE2 := Ext.alloc w1 (.cells #[.int .u8 (y.kind.toNat : Int), .slice so y.body.length sc] 139)
        generalize w1.alloc (.cells #[.int .u8 (y.kind.toNat : Int), .slice so y.body.length sc] 139) = W1 at *
        have HX2 := hid (HX1.out.trans hE2)
        have HO2 := hid (HO1.out.ext hE2)
        have HI2 := hid (HI1.out.ext hE2)
        have HR2 := hid (HR1.out.ext hE2)
        clear hE2 c0 c1
        refine (read5_any y (.slice so y.body.length sc) _ HR2.out.byt (HT.out.ext HX2.out)).mono ?_
        rintro e w2 ⟨r2, rfl, hr2, hw2⟩
        rw [HRD.out] at hr2 ⊢
        simp only [] at hr2
        obtain ⟨to, tc, rfl, -⟩ := hr2.vec.open
        have HX3 := hid (HX2.out.trans hw2)
        have HO3 := hid (HO2.out.ext hw2)
        have HI3 := hid (HI2.out.ext hw2)
        have HR3 := hid (hr2.mono HX2.out.size)
        clear hr2 hw2
        by_cases her2 : er2 = 0
        · subst her2
          have hok := rall_ok (k := k) HNE.out (by rw [HFR.out]) (by rw [HFR.out, HRD.out])
          rw [HFR.out] at hok
          simp only [HRD.out, List.drop_drop] at hok
          have HOK := hid hok
          clear hok
          obtain ⟨d0, d1, d2⟩ := blk3 (heap_alloc_new w2 (.cells #[.int .i64 z.kind, .slice to z.n.length tc, .string (str z.text)] 86))
          have hblk : ((w2.alloc (.cells #[.int .i64 z.kind, .slice to z.n.length tc, .string (str z.text)] 86)).alloc (.cells #[.int .i64 z.kind, .slice to z.n.length tc, .string (str z.text)] 86)).heap[w2.heap.size + 1]? = some (.cells #[.int .i64 z.kind, .slice to z.n.length tc, .string (str z.text)] 86) := by
            have := heap_alloc_new (w2.alloc (.cells #[.int .i64 z.kind, .slice to z.n.length tc, .string (str z.text)] 86)) (.cells #[.int .i64 z.kind, .slice to z.n.length tc, .string (str z.text)] 86)
            rwa [World.size_alloc] at this
          have HBLK := hid hblk
          have hsz2 := HX3.out.size
          clear hblk
          have hN48 : (m.length + 1) * 48 ≤ 140737488355328 := by omega
          have HO4 := hid ((HO3.out.ext (Ext.alloc _ (.cells #[.int .i64 z.kind, .slice to z.n.length tc, .string (str z.text)] 86))).ext (Ext.alloc _ (.cells #[.int .i64 z.kind, .slice to z.n.length tc, .string (str z.text)] 86)))
          have HI4 := hid ((HI3.out.ext (Ext.alloc _ (.cells #[.int .i64 z.kind, .slice to z.n.length tc, .string (str z.text)] 86))).ext (Ext.alloc _ (.cells #[.int .i64 z.kind, .slice to z.n.length tc, .string (str z.text)] 86)))
          have HR4 := hid ((HR3.out.ext (Ext.alloc _ (.cells #[.int .i64 z.kind, .slice to z.n.length tc, .string (str z.text)] 86))).ext (Ext.alloc _ (.cells #[.int .i64 z.kind, .slice to z.n.length tc, .string (str z.text)] 86)))
          have HX4 := hid ((HX3.out.trans (Ext.alloc _ (.cells #[.int .i64 z.kind, .slice to z.n.length tc, .string (str z.text)] 86))).trans (Ext.alloc _ (.cells #[.int .i64 z.kind, .slice to z.n.length tc, .string (str z.text)] 86)))
          have hes : (es.length + 1) * 8 ≤ 140737488355328 := by omega
          go_wp2_with (first
            | (at_builtin; refine wpList_append_rc rfl (.tmp 42) (.tmp 44) 81 rfl w.heap.size 86 Tryz.underlying81 infoRc (by decide) rfl HO4.out rfl HBLK.out HR4.out (m.length + 1) rfl hN48 (by simp; omega) ?_; intro ao2 cap2 w3 hown2 hg2 hb2; obtain ⟨HO5, HI5, HX5⟩ := And.intro (hid hown2) (And.intro (hid (far_rcs HI4.out HO4.out (by decide) hg2)) (hid (HX4.out.below hb2))); have hsz3 := HX5.out.size; clear hown2 hg2 hb2)
            | (at_builtin; refine wpList_append_vec iv_one rfl (.tmp 46) (.tmp 48) 34 rfl w.heap.size 3 Tryz.underlying34 infoInt rfl rfl (HI5.out.ext (Ext.alloc _ _)) rfl (Vec.one _ _ _ (k + n) (by simp)) (es.length + 1) (by simp) hes (by omega) (by simp; omega) ?_; intro ao3 cap3 w4 hown3 hg3 hb3))
          go_roundw
          case rel =>
            refine ⟨k + n, m ++ [z], es ++ [k + n], ao2, cap2, ao3, cap3, by omega, by go_num, by simp; omega, by simp; omega, by simp, by simp, hid ?_, hid ?_, hid ?_, (HX5.out.trans (Ext.alloc _ _)).below hb3⟩
            · have := RcsO.far (HO5.out.ext (Ext.alloc _ (.cells #[.int .i64 ((k : Int) + (n : Int))] 3))) (HI5.out.ext (Ext.alloc _ _)) (by decide) (by decide) hg3
              simpa using this
            · simpa using hown3
            · rw [HV.out, HOK.out]; simp
          case measure => simp [intOf]; omega
        · have he2 : (er2 != 0) = true := by simp [her2]
          have herr := rall_form (k := k) HNE.out (by rw [HFR.out]) (by rw [HFR.out, HRD.out]; exact her2)
          rw [HFR.out] at herr
          simp only [HRD.out] at herr
          have HERR := hid herr
          clear herr her2
          go_wp2
          go_ret3
          unfold AllR5
          rw [HV.out, HERR.out]
          have hx := Ext.alloc w2 (.cells #[.int .i64 z.kind, .slice to z.n.length tc, .string (str z.text)] 86)
          refine ⟨_, _, rfl, ?_, ?_, HX3.out.trans hx⟩
          · simpa using HO3.out.ext hx
          · simpa using HI3.out.ext hx
      · have he' : (er != 0) = true := by simp [her]
        have herr := rall_bad (k := k) hne (by rw [hfr]; exact her)
        rw [hfr] at herr
        have HERR := hid herr
        have HO1 := hid (HO.out.ext hw1)
        have HI1 := hid (HI.out.ext hw1)
        have HX1 := hid hE1
        clear hfr herr hr hw1 hne her hE1
        go_wp2
        go_ret3
        unfold AllR5
        rw [HV.out, HERR.out]
        have hx := Ext.alloc w1 (.cells #[.int .u8 (y.kind.toNat : Int), .slice so y.body.length sc] 139)
        refine ⟨_, _, rfl, ?_, ?_, HX1.out.trans hx⟩
        · simpa using HO1.out.ext hx
        · simpa using HI1.out.ext hx
    · obtain rfl : k = b.length := by omega
      have HV' : rall 0 b = (m, es, 0) := by rw [HV.out, List.drop_of_length_le (Nat.le_refl _), rall_nil]; simp
      have HV2 := hid HV'
      clear HV'
      go_wp2
      go_ret3
      unfold AllR5
      rw [HV2.out]
      exact ⟨_, _, rfl, HO.out, HI.out, HE.out⟩
end Go.Proofs.YtinancnlangkjaaGreatDoor

