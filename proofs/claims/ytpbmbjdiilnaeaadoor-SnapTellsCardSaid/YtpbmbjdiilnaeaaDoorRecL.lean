/- Rows of records. -/
import Derived.Test.YtpbmbjdiilnaeaaDoorRecF
import Derived.Test.YtpbmbjdiilnaeaaDoorFrmL
import Derived.Test.YtpbmbjdiilnaeaaDoorKeep
set_option maxRecDepth 100000
namespace Go.Proofs.YtpbmbjdiilnaeaaDoor
open Go.RowKit Go.Tum Go.Tum.Crc Go.Tum.Vint

abbrev rcells (p : Rc × Value) : List Value := [.int .i64 p.1.kind, p.2, .string (str p.1.text)]
/-- The slice v holds the records l. -/
def Rcs (w : World) (v : Value) (l : List Rc) : Prop := ∃ m : List (Rc × Value), m.map (·.1) = l ∧ RowsOf w 3 v rcells m ∧ ∀ p ∈ m, Vec uv w p.2 p.1.n
theorem Rcs.ext {w w' : World} {v : Value} {l : List Rc} (h : Rcs w v l) (k : Ext w w') : Rcs w' v l := by
  obtain ⟨m, h1, h2, h3⟩ := h
  exact ⟨m, h1, h2.ext k, fun p hp => (h3 p hp).ext k⟩
/-- The call's own row of records: blocks of type T; the numbers lie in blocks of numbers. -/
def RcsO (w : World) (base T : Nat) (v : Value) (l : List Rc) : Prop := ∃ m : List (Rc × Value), m.map (·.1) = l ∧ w.ownsRow base T 3 v m.length (m.flatMap rcells) ∧ ∀ p ∈ m, OwV uv w base 22 p.2 p.1.n
theorem RcsO.rcs {w : World} {base T : Nat} {v : Value} {l : List Rc} (h : RcsO w base T v l) : Rcs w v l := by
  obtain ⟨m, h1, h2, h3⟩ := h
  exact ⟨m, h1, ⟨fun _ _ => rfl, Sl.of_owns h2⟩, fun p hp => (h3 p hp).vec⟩
theorem RcsO.ext {w w' : World} {base T : Nat} {v : Value} {l : List Rc} (h : RcsO w base T v l) (k : Ext w w') : RcsO w' base T v l := by
  obtain ⟨m, h1, h2, h3⟩ := h
  exact ⟨m, h1, k.owns h2, fun p hp => (h3 p hp).ext k⟩
theorem RcsO.mono {w : World} {b b' T : Nat} {v : Value} {l : List Rc} (h : RcsO w b T v l) (hb : b' ≤ b) : RcsO w b' T v l := by
  obtain ⟨m, h1, h2, h3⟩ := h
  exact ⟨m, h1, owns_mono h2 hb, fun p hp => (h3 p hp).mono hb⟩
theorem RcsO.nil (w : World) (base T : Nat) : RcsO w base T (.slice none 0 0) [] := ⟨[], rfl, World.ownsRow_nil _ _ _ _, fun p hp => absurd hp (by simp)⟩
theorem RcsO.lit0 (w : World) (base T : Nat) (hB : base ≤ w.heap.size) : RcsO (w.alloc (.cells #[] T)) base T (.slice (some ⟨w.heap.size, 0, none⟩) 0 0) [] :=
  ⟨[], rfl, by simpa using World.ownsRow_lit (base := base) (e := T) (size := 3) w #[] 0 hB (by simp [maxLen]) (by simp), fun p hp => absurd hp (by simp)⟩
theorem RcsO.len {w : World} {b T : Nat} {ao : Option Addr} {n cap : Nat} {l : List Rc} (h : RcsO w b T (.slice ao n cap) l) : n = l.length := by
  obtain ⟨m, rfl, h2, _⟩ := h
  rcases h2.2 with ⟨e, e2⟩ | ⟨g, c, cur, e, _⟩
  · cases e; simp [e2]
  · cases e; simp
theorem RcsO.open {w : World} {b T : Nat} {v : Value} {l : List Rc} (h : RcsO w b T v l) : ∃ ao cap, v = .slice ao l.length cap := by
  obtain ⟨m, rfl, h2, _⟩ := h
  rcases h2.2 with ⟨e, e2⟩ | ⟨g, c, cur, e, _⟩
  · subst e; exact ⟨none, 0, by simp [e2]⟩
  · subst e; exact ⟨_, c, by simp; rfl⟩
/-- Records lie in other blocks than a row of another type. -/
theorem RcsO.far {w w' : World} {b b' T f size n : Nat} {u v : Value} {xs : List Value} {l : List Rc} (h : RcsO w b T v l) (hu : w.ownsRow b' f size u n xs) (h1 : T ≠ f) (h2 : 22 ≠ f) (hg : w.grownBy w' u.ownBlock) : RcsO w' b T v l := by
  obtain ⟨m, hm, k2, k3⟩ := h
  exact ⟨m, hm, rows_far k2 hu h1 hg, fun p hp => rows_far (k3 p hp) hu h2 hg⟩

section
variable {P : Program}
/-- 'append(s, x)': s the call's own row of records, x a record in a block of its own. -/
theorem wpList_append_rc {ops : Array Oper} {rest : List Oper} {o : Oper} {a : Act} {w : World} {Q : Exit → Act → World → Prop} (hgd : o.guard = none) (s x : Operand) (t : Nat)
    (ho : o.op = .call { callee := .builtin .append, args := #[s, x], argTypes := #[t, t] }) (base T : Nat) (ht : P.underlying t = some (.slice T))
    (hi : (P.info? T).map (fun i => (i.zero, i.size, i.bytes)) = some (some (.agg #[.int .i64 0, .slice none 0 0, .string ⟨#[]⟩]), 3, 48)) (hT : 22 ≠ T)
    {v : Value} {l : List Rc} (hs : a.eval s = v) (hown : RcsO w base T v l) {g : Nat} {y : Rc} {r : Value} (hx : a.eval x = .slice (some ⟨g, 0, none⟩) 1 1)
    {ty : TypeId} {fr : Nat × Nat} (hblk : w.heap[g]? = some (.cells #[.int .i64 y.kind, r, .string (str y.text)] ty fr)) (hr : OwV uv w base 22 r y.n)
    (N : Nat) (hN : N = l.length + 1) (hb : N * 48 ≤ 140737488355328) (hbase : base ≤ w.heap.size)
    (h : ∀ ao cap w', RcsO w' base T (.slice ao N cap) (l ++ [y]) → w.grownBy w' v.ownBlock → Below base w w' → wpList P ops Q rest (a.put o.dst (.slice ao N cap)) w') :
    wpList P ops Q (o :: rest) a w := by
  subst hN
  obtain ⟨m, rfl, h2, h3⟩ := hown
  have hone : r.oneCell' = true := by
    obtain ⟨ao, cap, rfl, _⟩ := hr.vec.open
    rfl
  have hsl : Sl w 3 (.slice (some ⟨g, 0, none⟩) 1 1) 1 [.int .i64 y.kind, r, .string (str y.text)] := by
    refine ⟨rfl, some ⟨g, 0, none⟩, 1, rfl, Nat.le_refl _, by simp [maxLen], (fun h => by cases h), fun a ha j u hu => ?_⟩
    cases ha
    have e1 : (⟨g, 0, none⟩ : Addr).add j = ⟨g, j, none⟩ := by unfold Addr.add; split <;> simp_all
    rw [e1, cell_of_row _ _ _ _ _ _ hblk]
    simpa using hu
  have hlen : (m.map (·.1)).length = m.length := by simp
  rw [hlen] at hb h
  refine wpList_append_sl hgd s x t ho base T ht hi rfl (by decide) hs h2 hx hsl (by
    intro y' hy'
    simp at hy'
    rcases hy' with rfl | rfl | rfl
    · rfl
    · exact hone
    · rfl) (by simp [maxLen]; omega) (by omega) hbase fun ao cap w' k1 k2 k3 => ?_
  refine h ao cap w' ⟨m ++ [(y, r)], by simp, by simpa using k1, ?_⟩ k2 k3
  intro p hp
  rcases List.mem_append.1 hp with hp | hp
  · exact rows_far (h3 p hp) h2 hT k2
  · simp at hp; subst hp
    exact rows_far hr h2 hT k2
end
theorem iv_one (x : Nat) : (iv x).oneCell' = true := rfl
theorem infoRc : (Tryd.prog.info? 62).map (fun i => (i.zero, i.size, i.bytes)) = some (some (.agg #[.int .i64 0, .slice none 0 0, .string ⟨#[]⟩]), 3, 48) := by kernel_rfl
theorem infoRRc : (Tryd.prog.info? 71).map (fun i => (i.zero, i.size, i.bytes)) = some (some (.agg #[.int .i64 0, .slice none 0 0, .string ⟨#[]⟩]), 3, 48) := by kernel_rfl
theorem infoInt : (Tryd.prog.info? 3).map (fun i => (i.zero, i.size, i.bytes)) = some (some (.int .i64 0), 1, 8) := by kernel_rfl

/-- What All answers. -/
def AllR5 (T : Nat) (w : World) (b : List UInt8) (e : Ending) (w' : World) : Prop :=
  ∃ v u, e = .returned (.tuple #[v, u, .int .i64 (rall 0 b).2.2]) ∧ RcsO w' w.heap.size T v (rall 0 b).1 ∧ OwV iv w' w.heap.size 3 u (rall 0 b).2.1 ∧ Ext w w'
end Go.Proofs.YtpbmbjdiilnaeaaDoor
