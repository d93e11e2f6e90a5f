/- Slices of one-cell elements of any kind, as lists; append to them. -/
import Derived.Test.YtijpokajhjhllaaGreatDoorLib
namespace Go.Tum
open Go.RowKit

/-- The slice value v reads as the list l, its cells by f. -/
def Vec {α : Type} (f : α → Value) (w : World) (v : Value) (l : List α) : Prop := Sl w 1 v l.length (l.map f)
/-- .. and is the call's own. -/
def OwV {α : Type} (f : α → Value) (w : World) (base e : Nat) (v : Value) (l : List α) : Prop := w.ownsRow base e 1 v l.length (l.map f)

section
variable {α : Type} {f : α → Value}
theorem Vec.ext {w w' : World} {v : Value} {l : List α} (h : Vec f w v l) (k : Ext w w') : Vec f w' v l := Sl.ext h k
theorem Vec.open {w : World} {v : Value} {l : List α} (h : Vec f w v l) : ∃ ao cap, v = .slice ao l.length cap ∧ l.length ≤ cap ∧ cap ≤ 9223372036854775807 ∧ (0 < cap → ∃ a, ao = some a) ∧
    ∀ a, ao = some a → ∀ j (h : j < l.length), w.cell? (a.add j) = some (f l[j]) := by
  obtain ⟨h1, ao, cap, h2, h3, h4, h5, h6⟩ := h
  refine ⟨ao, cap, h2, h3, by simpa [maxLen] using h4, fun hc => ?_, fun a ha j hj => h6 a ha j _ (by simp [hj])⟩
  cases ao with
  | none => have := h5 rfl; omega
  | some a => exact ⟨a, rfl⟩
theorem Vec.opens {w : World} {ao : Option Addr} {n cap : Nat} {l : List α} (h : Vec f w (.slice ao n cap) l) : n = l.length ∧ n ≤ cap ∧ cap ≤ 9223372036854775807 ∧ (0 < cap → ∃ a, ao = some a) ∧
    ∀ a, ao = some a → ∀ j (h : j < l.length), w.cell? (a.add j) = some (f l[j]) := by
  obtain ⟨ao', cap', e, h1, h2, h3, h4⟩ := h.open
  cases e
  exact ⟨rfl, h1, h2, h3, h4⟩
theorem Vec.len {w : World} {ao : Option Addr} {n cap : Nat} {l : List α} (h : Vec f w (.slice ao n cap) l) : n = l.length := by
  obtain ⟨_, ao2, cap2, e, _⟩ := h
  cases e; rfl
theorem Vec.nil (w : World) : Vec f w (.slice none 0 0) [] := Sl.nil w 1
theorem Vec.part {w : World} {ao : Option Addr} {cap n : Nat} {l : List α} (h : Vec f w (.slice ao n cap) l) (lo hi : Nat) (h1 : lo ≤ hi) (h2 : hi ≤ l.length)
    (ao' : Option Addr) (hao : ao' = if cap = lo then ao else ao.map (·.add (lo * 1))) :
    Vec f w (.slice ao' (hi - lo) (cap - lo)) ((l.drop lo).take (hi - lo)) := by
  have hn := h.len
  subst hn
  have := Sl.part h lo hi h1 h2 ao' hao
  unfold Vec
  have e1 : ((l.drop lo).take (hi - lo)).length = hi - lo := by simp; omega
  rw [e1, List.map_take, List.map_drop]
  simpa using this
/-- 'v[lo:]', as the walk writes it. -/
theorem Vec.drop {w : World} {ao : Option Addr} {cap n : Nat} {l : List α} (h : Vec f w (.slice ao n cap) l) (lo : Nat) (h1 : lo ≤ l.length)
    (ao' : Option Addr) (hao : ao' = if cap = lo then ao else ao.map (·.add lo)) (k c : Nat) (hk : k = l.length - lo) (hc : c = cap - lo) :
    Vec f w (.slice ao' k c) (l.drop lo) := by
  subst hk hc
  have := Vec.part h lo l.length h1 (Nat.le_refl _) ao' (by simpa using hao)
  rwa [List.take_of_length_le (by simp)] at this
/-- 'v[:hi]'. -/
theorem Vec.take {w : World} {ao : Option Addr} {cap n : Nat} {l : List α} (h : Vec f w (.slice ao n cap) l) (hi : Nat) (h2 : hi ≤ l.length) :
    Vec f w (.slice ao hi cap) (l.take hi) := by
  have := Vec.part h 0 hi (Nat.zero_le _) h2 ao (by split <;> cases ao <;> simp [Addr.add])
  simpa using this
/-- 'v[:hi:mx]', mx at most the capacity. -/
theorem Vec.cap {w : World} {ao : Option Addr} {cap n : Nat} {l : List α} (h : Vec f w (.slice ao n cap) l) (c : Nat) (h1 : n ≤ c) (h2 : c ≤ cap) : Vec f w (.slice ao n c) l := by
  obtain ⟨hl, ao2, cap2, e, h3, h4, h5, h6⟩ := h
  cases e
  exact ⟨hl, ao, c, rfl, h1, Nat.le_trans h2 h4, fun hn => by have := h5 hn; omega, h6⟩

theorem OwV.vec {w : World} {b e : Nat} {v : Value} {l : List α} (h : OwV f w b e v l) : Vec f w v l := Sl.of_owns h
theorem OwV.ext {w w' : World} {b e : Nat} {v : Value} {l : List α} (h : OwV f w b e v l) (k : Ext w w') : OwV f w' b e v l := Ext.owns k h
theorem OwV.mono {w : World} {b b' e : Nat} {v : Value} {l : List α} (h : OwV f w b e v l) (hb : b' ≤ b) : OwV f w b' e v l := owns_mono h hb
theorem OwV.nil (w : World) (b e : Nat) : OwV f w b e (.slice none 0 0) [] := World.ownsRow_nil _ _ _ _
theorem OwV.drew {w : World} {b e : Nat} {v : Value} {l : List α} (h : OwV f w b e v l) : OwV f w.drew b e v l := h
theorem OwV.shape {w : World} {b e : Nat} {v : Value} {l : List α} (h : OwV f w b e v l) : ∃ ao cap, v = .slice ao l.length cap := by
  obtain ⟨ao, cap, h, _⟩ := h.vec.open; exact ⟨ao, cap, h⟩
theorem OwV.len {w : World} {b e : Nat} {ao : Option Addr} {n cap : Nat} {l : List α} (h : OwV f w b e (.slice ao n cap) l) : n = l.length := h.vec.len
theorem OwV.cell {w : World} {b e g n cap : Nat} {l : List α} (h : OwV f w b e (.slice (some ⟨g, 0, none⟩) n cap) l) (j : Nat) (hj : j < l.length) : w.cell? ⟨g, j, none⟩ = some (f l[j]) := by
  have := h.len; subst this
  rw [World.ownsRow.cellAt h j (by omega)]; simp [hj]
theorem OwV.frozen {w : World} {b e g n cap : Nat} {l : List α} (h : OwV f w b e (.slice (some ⟨g, 0, none⟩) n cap) l) (j : Nat) : w.frozen? ⟨g, j, none⟩ = false := by
  have := h.len; subst this
  exact World.ownsRow.frozenAt h j
theorem OwV.set {w : World} {b e g n cap : Nat} {l : List α} (h : OwV f w b e (.slice (some ⟨g, 0, none⟩) n cap) l) (j : Nat) (c : α) :
    OwV f (w.setCell ⟨g, j, none⟩ (f c)) b e (.slice (some ⟨g, 0, none⟩) n cap) (l.set j c) := by
  have := h.len; subst this
  have := (World.ownsRow.stored h j (f c)).1
  unfold OwV
  rw [List.length_set, List.map_set]
  exact this
theorem OwV.block {w : World} {b e g n cap : Nat} {l : List α} (h : OwV f w b e (.slice (some ⟨g, 0, none⟩) n cap) l) : b ≤ g := by
  have := h.len; subst this
  exact (World.ownsRow.lt h g rfl).1
theorem OwV.addr {w : World} {b e n cap : Nat} {ao : Option Addr} {l : List α} (h : OwV f w b e (.slice ao n cap) l) (h0 : 0 < n) : ∃ g, ao = some ⟨g, 0, none⟩ := by
  have := h.len; subst this
  rcases h.2 with ⟨a, b⟩ | ⟨g, cap, cur, hv, _⟩
  · omega
  · cases hv; exact ⟨g, rfl⟩
theorem OwV.setOther {w : World} {b e g n cap : Nat} {l : List α} (h : OwV f w b e (.slice (some ⟨g, 0, none⟩) n cap) l) (a : Addr) (u : Value) (hne : a.block ≠ g) :
    OwV f (w.setCell a u) b e (.slice (some ⟨g, 0, none⟩) n cap) l := by
  refine ⟨h.1, ?_⟩
  rcases h.2 with hn | ⟨g', cap', cur, hv, hb, hgg, rest⟩
  · exact .inl hn
  · cases hv
    exact .inr ⟨g, cap, cur, rfl, hb, by rw [heap_setCell_other _ _ _ _ (fun e => hne e.symm)]; exact hgg, rest⟩
theorem owv_of_heap {w : World} {g : Nat} {cs : Array Value} {e : Nat} (h : w.heap[g]? = some (.cells cs e (0, 0))) (B : Nat) (hB : B ≤ g) (l : List α) (hl : cs.toList = l.map f) (n : Nat) (hn : n = l.length) (hm : l.length ≤ maxLen) :
    OwV f w B e (.slice (some ⟨g, 0, none⟩) n n) l := by
  subst hn
  refine ⟨by simp, .inr ⟨g, l.length, cs, rfl, hB, h, Nat.le_refl _, hm, ?_, ?_⟩⟩
  · have := congrArg List.length hl; simpa using this
  · rw [hl]; exact List.take_of_length_le (by simp)
theorem owv_lit (w : World) (B e : Nat) (l : List α) (cs : Array Value) (h : cs = (l.map f).toArray) (n : Nat) (hn : n = l.length) (hB : B ≤ w.heap.size) (hm : l.length ≤ maxLen) :
    OwV f (w.alloc (.cells cs e)) B e (.slice (some ⟨w.heap.size, 0, none⟩) n n) l := by
  subst h hn
  have := World.ownsRow_lit (base := B) (e := e) (size := 1) w (l.map f).toArray l.length hB hm (by simp)
  simpa [OwV] using this
theorem Vec.one (w : World) (e : Nat) (x : Value) (b : α) (h : x = f b) : Vec f (w.alloc (.cells #[x] e)) (.slice (some ⟨w.heap.size, 0, none⟩) 1 1) [b] := by
  subst h
  exact (owv_lit w 0 e [b] #[f b] rfl 1 rfl (Nat.zero_le _) (by simp [maxLen])).vec

variable {P : Program}
theorem run_append_vec (hf : ∀ x, (f x).oneCell' = true) (base t ty e : Nat) {z : Value} {bytes : Nat} (ht : P.underlying t = some (.slice e)) (hi : (P.info? e).map (fun i => (i.zero, i.size, i.bytes)) = some (some z, 1, bytes)) (hz : z.cells.size = 1)
    {w : World} {v u : Value} {l1 l2 : List α} (hown : OwV f w base e v l1) (hsl : Vec f w u l2) (hb : (l1.length + l2.length) * bytes ≤ 140737488355328) (hb2 : l1.length + l2.length ≤ 9223372036854775807) (hbase : base ≤ w.heap.size) :
    ∃ ao cap w', (Builtin.append_ #[t, t] ty #[v, u]).run P w = .ok (.slice ao (l1.length + l2.length) cap) w' ∧ OwV f w' base e (.slice ao (l1.length + l2.length) cap) (l1 ++ l2) ∧ w.grownBy w' v.ownBlock ∧ Below base w w' := by
  obtain ⟨ao, cap, w', h1, h2, h3, h4⟩ := run_append_sl (P := P) base t ty e ht hi hz (by decide) hown hsl (fun y hy => by obtain ⟨x, _, rfl⟩ := List.mem_map.1 hy; exact hf x) (by simp [maxLen]; omega) hb hbase
  exact ⟨ao, cap, w', h1, by unfold OwV; simpa using h2, h3, h4⟩
theorem wpList_append_vec (hf : ∀ x, (f x).oneCell' = true) {ops : Array Oper} {rest : List Oper} {o : Oper} {a : Act} {w : World} {Q : Exit → Act → World → Prop} (hgd : o.guard = none) (s x : Operand) (t : Nat)
    (ho : o.op = .call { callee := .builtin .append, args := #[s, x], argTypes := #[t, t] }) (base e : Nat) {z : Value} {bytes : Nat} (ht : P.underlying t = some (.slice e))
    (hi : (P.info? e).map (fun i => (i.zero, i.size, i.bytes)) = some (some z, 1, bytes)) (hz : z.cells.size = 1)
    {v : Value} {l1 : List α} (hs : a.eval s = v) (hown : OwV f w base e v l1) {u : Value} {l2 : List α} (hx : a.eval x = u) (hsl : Vec f w u l2)
    (N : Nat) (hN : N = l1.length + l2.length) (hb : N * bytes ≤ 140737488355328) (hb2 : N ≤ 9223372036854775807) (hbase : base ≤ w.heap.size)
    (h : ∀ ao cap w', OwV f w' base e (.slice ao N cap) (l1 ++ l2) → w.grownBy w' v.ownBlock → Below base w w' → wpList P ops Q rest (a.put o.dst (.slice ao N cap)) w') :
    wpList P ops Q (o :: rest) a w := by
  subst hN
  refine wpList_append_sl hgd s x t ho base e ht hi hz (by decide) hs hown hx hsl (fun y hy => by obtain ⟨x, _, rfl⟩ := List.mem_map.1 hy; exact hf x) (by simp [maxLen]; omega) hb hbase fun ao cap w' h1 h2 h3 => h ao cap w' ?_ h2 h3
  unfold OwV; simpa using h1
end

/-- Numbers of 64 bits, without sign. -/
abbrev uv (x : UInt64) : Value := .int .u64 (x.toNat : Int)
theorem uv_one (x : UInt64) : (uv x).oneCell' = true := rfl
/-- ints -/
abbrev iv (x : Int) : Value := .int .i64 x
theorem iv_one (x : Int) : (iv x).oneCell' = true := rfl
theorem bv_one' (x : UInt8) : (bv x).oneCell' = true := rfl
theorem Byt.vec {w : World} {v : Value} {l : List UInt8} (h : Byt w v l) : Vec bv w v l := h
theorem Vec.byt {w : World} {v : Value} {l : List UInt8} (h : Vec bv w v l) : Byt w v l := h
theorem Own.owv {w : World} {b e : Nat} {v : Value} {l : List UInt8} (h : Own w b e v l) : OwV bv w b e v l := h
theorem OwV.own {w : World} {b e : Nat} {v : Value} {l : List UInt8} (h : OwV bv w b e v l) : Own w b e v l := h

/-- From the frame's reading of an argument of numbers of 64 bits to a list. -/
theorem vec_of_row_u64 {w : World} {a : Option Addr} {len cap : Nat} {zs : List Int}
    (h : (a = none ∧ len = 0 ∧ cap = 0 ∧ zs = []) ∨
      ∃ x, a = some x ∧ len ≤ cap ∧ cap ≤ maxLen ∧ zs.length = cap ∧ (∀ i, i < zs.length → w.cell? (x.add i) = some (.int .u64 (zs.getD i 0))) ∧ ∀ n ∈ zs, (Lit.int .u64 n).wf = true) :
    ∃ l : List UInt64, Vec uv w (.slice a len cap) l := by
  rcases h with ⟨rfl, rfl, rfl, rfl⟩ | ⟨x, rfl, hlc, hcm, hz, hc, hw⟩
  · exact ⟨[], Sl.nil w 1⟩
  · refine ⟨(zs.take len).map fun n => UInt64.ofNat n.toNat, ?_⟩
    have hlen : ((zs.take len).map fun n => UInt64.ofNat n.toNat).length = len := by simp; omega
    unfold Vec
    rw [hlen]
    refine ⟨by simp; omega, some x, cap, rfl, hlc, hcm, (fun h => by cases h), fun a ha j u hu => ?_⟩
    cases ha
    have hj : j < len := by
      rcases Nat.lt_or_ge j len with h | h
      · exact h
      · rw [List.getElem?_eq_none (by simp; omega)] at hu; cases hu
    have hjz : j < zs.length := by omega
    rw [hc j hjz]
    have hwj := hw (zs.getD j 0) (by simp [List.getD, hjz])
    have hb : 0 ≤ zs.getD j 0 ∧ zs.getD j 0 ≤ 18446744073709551615 := by simpa [Lit.wf, IntKind.min, IntKind.max, IntKind.signed, IntKind.bits] using hwj
    simp [hj, hjz, uv] at hu
    rw [← hu]
    simp [List.getD, hjz] at hb ⊢
    omega
end Go.Tum
