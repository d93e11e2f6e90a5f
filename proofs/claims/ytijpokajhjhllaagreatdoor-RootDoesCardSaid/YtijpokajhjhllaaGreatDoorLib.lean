/- Slices that read as lists; growth of memory; append; small tools for walks. -/
import Derived.WalkKit
import Derived.Laws.AppendOwnNone
import Derived.Laws.CopyOwn
import Derived.Deep.Draws
namespace Go.Tum
open Go.RowKit

theorem hid {p : Prop} (h : p) : Hid p := h

/-- Memory has grown: all that was there is as it was. -/
abbrev Ext (w w' : World) : Prop := Below w.heap.size w w'
theorem Ext.refl (w : World) : Ext w w := Below.refl _ w
theorem Ext.trans {a b c : World} (h : Ext a b) (k : Ext b c) : Ext a c := Below.trans h (k.mono h.size)
theorem Ext.below {a b c : World} (h : Ext a b) (k : Below a.heap.size b c) : Ext a c := Below.trans h k
theorem Ext.draw (w : World) : Ext w { w with drawn := w.drawn + 1 } := ⟨rfl, rfl, rfl, Nat.le_refl _, fun _ _ => rfl⟩
theorem Ext.drew (w : World) : Ext w w.drew := ⟨rfl, rfl, rfl, Nat.le_refl _, fun _ _ => rfl⟩
theorem Ext.drewN (w : World) (n : Nat) : Ext w (w.drewN n) := ⟨rfl, rfl, rfl, Nat.le_refl _, fun _ _ => rfl⟩
theorem Ext.alloc (w : World) (o : Obj) : Ext w (w.alloc o) := (Below.refl _ w).alloc (Nat.le_refl _) o
theorem Ext.cell {w w' : World} (h : Ext w w') {a : Addr} {v : Value} (hc : w.cell? a = some v) : w'.cell? a = some v :=
  (Below.cell h (World.block_lt_of_cell? w a hc)).trans hc
theorem Ext.obj {w w' : World} (h : Ext w w') {b : Nat} {o : Obj} (hc : w.heap[b]? = some o) : w'.heap[b]? = some o :=
  (h.block b (Array.getElem?_eq_some_iff.1 hc).1).trans hc
theorem Ext.grown {w w' : World} {row : Option Nat} (hg : w.grownBy w' row) (hr : row = none) : Ext w w' := by
  subst hr; exact ⟨hg.os, hg.tape, hg.output, hg.size, fun k hk => hg.block k hk (by simp)⟩
theorem Ext.owns {w w' : World} (h : Ext w w') {b e sz : Nat} {v : Value} {n : Nat} {xs : List Value} (hc : w.ownsRow b e sz v n xs) : w'.ownsRow b e sz v n xs := by
  refine ⟨hc.1, ?_⟩
  rcases hc.2 with hn | ⟨g, cap, cur, rfl, hb, hgg, rest⟩
  · exact .inl hn
  · exact .inr ⟨g, cap, cur, rfl, hb, h.obj hgg, rest⟩
/-- Growth since an earlier world, and writes to what is the call's own. -/
theorem Below.ext {B : Nat} {a b c : World} (h : Below B a b) (hB : B ≤ b.heap.size) (k : Ext b c) : Below B a c := Below.trans h (k.mono hB)
theorem owns_mono {w : World} {b b' e sz : Nat} {v : Value} {n : Nat} {xs : List Value} (h : w.ownsRow b e sz v n xs) (hb : b' ≤ b) : w.ownsRow b' e sz v n xs := by
  refine ⟨h.1, ?_⟩
  rcases h.2 with hn | ⟨g, cap, cur, rfl, hg, rest⟩
  · exact .inl hn
  · exact .inr ⟨g, cap, cur, rfl, by omega, rest⟩

/-- The slice value v has n elements of 'size' cells, which are xs. -/
structure Sl (w : World) (size : Nat) (v : Value) (n : Nat) (xs : List Value) : Prop where
  len : xs.length = n * size
  ex : ∃ ao cap, v = .slice ao n cap ∧ n ≤ cap ∧ cap ≤ maxLen ∧ (ao = none → cap = 0) ∧ ∀ a, ao = some a → ∀ j u, xs[j]? = some u → w.cell? (a.add j) = some u

theorem Sl.ext {w w' : World} {size : Nat} {v : Value} {n : Nat} {xs : List Value} (h : Sl w size v n xs) (k : Ext w w') : Sl w' size v n xs := by
  obtain ⟨h1, ao, cap, h2, h3, h4, h5, h6⟩ := h
  exact ⟨h1, ao, cap, h2, h3, h4, h5, fun a ha j u hu => k.cell (h6 a ha j u hu)⟩

theorem Sl.of_owns {w : World} {b e size : Nat} {v : Value} {n : Nat} {xs : List Value} (h : w.ownsRow b e size v n xs) : Sl w size v n xs := by
  refine ⟨h.1, ?_⟩
  have hc := @World.ownsRow.cells w b e size v n xs h
  rcases h.2 with ⟨hn, h0⟩ | ⟨g, cap, cur, hv, hb, hgg, h1, h2, h3, h4⟩
  · subst hn h0
    exact ⟨none, 0, rfl, Nat.le_refl _, Nat.zero_le _, fun _ => rfl, fun a ha => by cases ha⟩
  · subst hv
    refine ⟨some ⟨g, 0, none⟩, cap, rfl, h1, h2, (fun h => by cases h), fun a ha j u hu => ?_⟩
    cases ha
    exact hc rfl j u hu

theorem Sl.nil (w : World) (size : Nat) : Sl w size (.slice none 0 0) 0 [] :=
  ⟨by simp, none, 0, rfl, Nat.le_refl _, Nat.zero_le _, fun _ => rfl, fun a ha => by cases ha⟩

theorem addr_add_add (a : Addr) (i j : Nat) : (a.add i).add j = a.add (i + j) := by
  unfold Addr.add
  by_cases hi : i = 0
  · subst hi; simp
  · by_cases hj : j = 0
    · subst hj; simp [hi]
    · rw [if_neg hi, if_neg hj, if_neg (by omega)]; simp [Nat.add_assoc]

/-- A part of it: 'v[lo:hi]', as the operation leaves it. -/
theorem Sl.part {w : World} {size : Nat} {ao : Option Addr} {cap n : Nat} {xs : List Value} (h : Sl w size (.slice ao n cap) n xs) (lo hi : Nat) (h1 : lo ≤ hi) (h2 : hi ≤ n)
    (ao' : Option Addr) (hao : ao' = if cap = lo then ao else ao.map (·.add (lo * size))) :
    Sl w size (.slice ao' (hi - lo) (cap - lo)) (hi - lo) ((xs.drop (lo * size)).take ((hi - lo) * size)) := by
  obtain ⟨l, ao2, cap2, e, h3, h4, h5, h6⟩ := h
  cases e
  have hmul : hi * size ≤ n * size := Nat.mul_le_mul_right _ h2
  have hsub : (hi - lo) * size = hi * size - lo * size := Nat.sub_mul _ _ _
  refine ⟨by simp [l]; omega, ao', cap - lo, rfl, by omega, by omega, ?_, ?_⟩
  · intro hn
    rw [hao] at hn
    split at hn
    · rename_i hc; omega
    · simp at hn; have := h5 hn; omega
  · intro a ha j u hu
    rw [List.getElem?_take] at hu
    split at hu
    · rename_i hj
      rw [List.getElem?_drop] at hu
      rw [hao] at ha
      split at ha
      · rename_i hc
        exfalso
        have : hi - lo = 0 := by omega
        rw [this] at hj; simp at hj
      · cases ao with
        | none => simp at ha
        | some b =>
          simp at ha; subst ha
          rw [addr_add_add]
          exact h6 b rfl _ u hu
    · cases hu

/-- The number in a cell of bytes. -/
abbrev bv (b : UInt8) : Value := .int .u8 (b.toNat : Int)
def Byt (w : World) (v : Value) (l : List UInt8) : Prop := Sl w 1 v l.length (l.map bv)

theorem Byt.ext {w w' : World} {v : Value} {l : List UInt8} (h : Byt w v l) (k : Ext w w') : Byt w' v l := Sl.ext h k
theorem Byt.open {w : World} {v : Value} {l : List UInt8} (h : Byt w v l) : ∃ ao cap, v = .slice ao l.length cap ∧ l.length ≤ cap ∧ cap ≤ 9223372036854775807 ∧ (0 < cap → ∃ a, ao = some a) ∧
    ∀ a, ao = some a → ∀ j (h : j < l.length), w.cell? (a.add j) = some (.int .u8 (l[j].toNat : Int)) := by
  obtain ⟨h1, ao, cap, h2, h3, h4, h5, h6⟩ := h
  refine ⟨ao, cap, h2, h3, by simpa [maxLen] using h4, fun hc => ?_, fun a ha j hj => h6 a ha j _ (by simp [hj, bv])⟩
  cases ao with
  | none => have := h5 rfl; omega
  | some a => exact ⟨a, rfl⟩
theorem bv_one (l : List UInt8) : ∀ u ∈ l.map bv, u.oneCell' = true := by
  intro u hu
  obtain ⟨b, _, rfl⟩ := List.mem_map.1 hu
  rfl
theorem Byt.part {w : World} {ao : Option Addr} {cap n : Nat} {l : List UInt8} (h : Byt w (.slice ao n cap) l) (lo hi : Nat) (h1 : lo ≤ hi) (h2 : hi ≤ l.length)
    (ao' : Option Addr) (hao : ao' = if cap = lo then ao else ao.map (·.add (lo * 1))) :
    Byt w (.slice ao' (hi - lo) (cap - lo)) ((l.drop lo).take (hi - lo)) := by
  have hn : n = l.length := by
    obtain ⟨_, ao2, cap2, e, _⟩ := h
    cases e; rfl
  subst hn
  have := Sl.part h lo hi h1 h2 ao' hao
  unfold Byt
  have e1 : ((l.drop lo).take (hi - lo)).length = hi - lo := by simp; omega
  rw [e1, List.map_take, List.map_drop]
  simpa using this
theorem Byt.len {w : World} {ao : Option Addr} {n cap : Nat} {l : List UInt8} (h : Byt w (.slice ao n cap) l) : n = l.length := by
  obtain ⟨_, ao2, cap2, e, _⟩ := h
  cases e; rfl
/-- The call's own row of bytes. -/
def Own (w : World) (base e : Nat) (v : Value) (l : List UInt8) : Prop := w.ownsRow base e 1 v l.length (l.map bv)
theorem Own.byt {w : World} {b e : Nat} {v : Value} {l : List UInt8} (h : Own w b e v l) : Byt w v l := Sl.of_owns h
theorem Own.ext {w w' : World} {b e : Nat} {v : Value} {l : List UInt8} (h : Own w b e v l) (k : Ext w w') : Own w' b e v l := Ext.owns k h
theorem Own.mono {w : World} {b b' e : Nat} {v : Value} {l : List UInt8} (h : Own w b e v l) (hb : b' ≤ b) : Own w b' e v l := owns_mono h hb
theorem Own.nil (w : World) (b e : Nat) : Own w b e (.slice none 0 0) [] := World.ownsRow_nil _ _ _ _

theorem Own.len {w : World} {b e : Nat} {ao : Option Addr} {n cap : Nat} {l : List UInt8} (h : Own w b e (.slice ao n cap) l) : n = l.length := h.byt.len
theorem Own.cell {w : World} {b e g n cap : Nat} {l : List UInt8} (h : Own w b e (.slice (some ⟨g, 0, none⟩) n cap) l) (j : Nat) (hj : j < l.length) : w.cell? ⟨g, j, none⟩ = some (.int .u8 (l[j].toNat : Int)) := by
  have := h.len; subst this
  rw [World.ownsRow.cellAt h j (by omega)]; simp [hj, bv]
theorem Own.frozen {w : World} {b e g n cap : Nat} {l : List UInt8} (h : Own w b e (.slice (some ⟨g, 0, none⟩) n cap) l) (j : Nat) : w.frozen? ⟨g, j, none⟩ = false := by
  have := h.len; subst this
  exact World.ownsRow.frozenAt h j
theorem Own.set {w : World} {b e g n cap : Nat} {l : List UInt8} (h : Own w b e (.slice (some ⟨g, 0, none⟩) n cap) l) (j : Nat) (x : Int) (c : UInt8) (hx : x = (c.toNat : Int)) :
    Own (w.setCell ⟨g, j, none⟩ (.int .u8 x)) b e (.slice (some ⟨g, 0, none⟩) n cap) (l.set j c) := by
  subst hx
  have := h.len; subst this
  have := (World.ownsRow.stored h j (bv c)).1
  unfold Own
  rw [List.length_set, List.map_set]
  exact this
theorem Own.block {w : World} {b e g n cap : Nat} {l : List UInt8} (h : Own w b e (.slice (some ⟨g, 0, none⟩) n cap) l) : b ≤ g := by
  have := h.len; subst this
  exact (World.ownsRow.lt h g rfl).1
theorem Own.addr {w : World} {b e n cap : Nat} {ao : Option Addr} {l : List UInt8} (h : Own w b e (.slice ao n cap) l) (h0 : 0 < n) : ∃ g, ao = some ⟨g, 0, none⟩ := by
  have := h.len; subst this
  rcases h.2 with ⟨a, b⟩ | ⟨g, cap, cur, hv, _⟩
  · omega
  · cases hv; exact ⟨g, rfl⟩

theorem own_of_heap {w : World} {g : Nat} {cs : Array Value} {e : Nat} (h : w.heap[g]? = some (.cells cs e (0, 0))) (B : Nat) (hB : B ≤ g) (l : List UInt8) (hl : cs.toList = l.map bv) (n : Nat) (hn : n = l.length) (hm : l.length ≤ maxLen) :
    Own w B e (.slice (some ⟨g, 0, none⟩) n n) l := by
  subst hn
  refine ⟨by simp, .inr ⟨g, l.length, cs, rfl, hB, h, Nat.le_refl _, hm, ?_, ?_⟩⟩
  · have := congrArg List.length hl; simpa using this
  · rw [hl]; exact List.take_of_length_le (by simp)
/-- Owned rows in other blocks stay. -/
theorem Own.setOther {w : World} {b e g n cap : Nat} {l : List UInt8} (h : Own w b e (.slice (some ⟨g, 0, none⟩) n cap) l) (a : Addr) (u : Value) (hne : a.block ≠ g) :
    Own (w.setCell a u) b e (.slice (some ⟨g, 0, none⟩) n cap) l := by
  refine ⟨h.1, ?_⟩
  rcases h.2 with hn | ⟨g', cap', cur, hv, hb, hgg, rest⟩
  · exact .inl hn
  · cases hv
    exact .inr ⟨g, cap, cur, rfl, hb, by rw [heap_setCell_other _ _ _ _ (fun e => hne e.symm)]; exact hgg, rest⟩
theorem Own.drew {w : World} {b e : Nat} {v : Value} {l : List UInt8} (h : Own w b e v l) : Own w.drew b e v l := h

theorem own_lit (w : World) (B e : Nat) (l : List UInt8) (cs : Array Value) (h : cs = (l.map bv).toArray) (n : Nat) (hn : n = l.length) (hB : B ≤ w.heap.size) (hm : l.length ≤ maxLen) :
    Own (w.alloc (.cells cs e)) B e (.slice (some ⟨w.heap.size, 0, none⟩) n n) l := by
  subst h hn
  have := World.ownsRow_lit (base := B) (e := e) (size := 1) w (l.map bv).toArray l.length hB hm (by simp)
  simpa [Own] using this

theorem byt_lit (w : World) (e : Nat) (fr : Nat × Nat) (l : List UInt8) (cs : Array Value) (h : cs = (l.map bv).toArray) (n : Nat) (hn : n = l.length) (hm : l.length ≤ maxLen) :
    Byt (w.alloc (.cells cs e fr)) (.slice (some ⟨w.heap.size, 0, none⟩) n n) l := by
  subst h hn
  refine ⟨by simp, some ⟨w.heap.size, 0, none⟩, l.length, rfl, Nat.le_refl _, hm, (fun h => by cases h), fun a ha j u hu => ?_⟩
  cases ha
  have e1 : (⟨w.heap.size, 0, none⟩ : Addr).add j = ⟨w.heap.size, j, none⟩ := by unfold Addr.add; split <;> simp_all
  rw [e1, cell_of_row (w.alloc (.cells (l.map bv).toArray e fr)) w.heap.size j (l.map bv).toArray e fr (heap_alloc_new _ _)]
  simpa using hu
theorem Byt.one (w : World) (e : Nat) (x : Int) (b : UInt8) (h : x = (b.toNat : Int)) : Byt (w.alloc (.cells #[.int .u8 x] e)) (.slice (some ⟨w.heap.size, 0, none⟩) 1 1) [b] := by
  subst h
  exact (own_lit w 0 e [b] #[.int .u8 b.toNat] rfl 1 rfl (Nat.zero_le _) (by simp [maxLen])).byt

/-- The text of bytes. -/
def str (l : List UInt8) : ByteArray := ⟨l.toArray⟩
theorem str_data (l : List UInt8) : (str l).data.toList = l := by simp [str]
theorem str_size (l : List UInt8) : (str l).size = l.length := by simp [str, ByteArray.size]
@[go_sem] theorem str_toList (l : List UInt8) : (str l).toList = l := ByteArray.toList_mk l
theorem run_string_byt {P : Program} {w : World} {v : Value} {l : List UInt8} (h : Byt w v l) (src dst e : Nat) (hs : P.underlying src = some (.slice e)) (he : P.underlying e = some (.int .u8)) (hd : P.underlying dst = some .string) :
    (convert src dst v).run P w = .ok (.string (str l)) w := by
  obtain ⟨hl, ao, cap, rfl, h3, h4, h5, h6⟩ := h
  cases ao with
  | none =>
    have := h5 rfl
    obtain rfl : l = [] := List.length_eq_zero_iff.1 (by omega)
    exact run_convert_bytes_nil w src e hs he _ _ dst hd
  | some a =>
    have hl : (loadCells a l.length).run P w = .ok ((l.map fun b => (b.toNat : Int)).map (Value.int .u8)).toArray w := by
      have := run_loadCells_list (P := P) w a (l.map bv) (h6 a rfl)
      simpa [Function.comp_def, bv] using this
    rw [run_convert_bytes_string w src dst e _ _ _ hs he hd, run_bytesToString w _ _ _ _ hl, foldl_push_bytes]
    simp [str, ByteArray.empty, ByteArray.emptyWithCapacity, Function.comp_def]
    rfl

section
variable {P : Program}
/-- 'append(s, x...)': s the call's own, x whatever slice. -/
theorem run_append_sl (base t ty e : Nat) {z : Value} {size bytes : Nat} (ht : P.underlying t = some (.slice e))
    (hi : (P.info? e).map (fun i => (i.zero, i.size, i.bytes)) = some (some z, size, bytes)) (hzs : z.cells.size = size) (hsz : 0 < size)
    {w : World} {v : Value} {n : Nat} {xs : List Value} (hown : w.ownsRow base e size v n xs) {u : Value} {m : Nat} {ys : List Value} (hsl : Sl w size u m ys) (h1 : ∀ y ∈ ys, y.oneCell' = true)
    (hb : n + m ≤ maxLen) (hbytes : (n + m) * bytes ≤ 140737488355328) (hbase : base ≤ w.heap.size) :
    ∃ ao cap w', (Builtin.append_ #[t, t] ty #[v, u]).run P w = .ok (.slice ao (n + m) cap) w' ∧ w'.ownsRow base e size (.slice ao (n + m) cap) (n + m) (xs ++ ys) ∧ w.grownBy w' v.ownBlock ∧ Below base w w' := by
  obtain ⟨i, hi1, hz, hs, hby⟩ := info_parts hi
  obtain ⟨hl, ao, cap, rfl, h3, h4, h5, h6⟩ := hsl
  have hlt := @World.ownsRow.lt w base e size v n xs hown
  cases ao with
  | none =>
    have hcap := h5 rfl
    subst hcap
    obtain rfl : m = 0 := by omega
    have hys : ys = [] := List.length_eq_zero_iff.1 (by simpa using hl)
    subst hys
    have hr := run_append_owned_none (P := P) w base t ty e i size ht hi1 v n xs hown
    have hv : ∃ ao cap, v = .slice ao n cap := by
      rcases hown.2 with ⟨a, b⟩ | ⟨g, cap, cur, hv, _⟩
      · subst b; exact ⟨_, _, a⟩
      · exact ⟨_, _, hv⟩
    obtain ⟨ao, cap, hv⟩ := hv
    refine ⟨ao, cap, w, by rw [hr, hv]; rfl, ?_, World.grownBy.refl _ _, Below.refl _ _⟩
    subst hv; simpa using hown
  | some a =>
    obtain ⟨v', w', hr, ho, hg, _⟩ := run_append_own (P := P) w base t ty e i z size bytes ht hi1 hz hs hby hzs hsz v n xs hown a m cap ys hl (fun j u hu => h6 a rfl j u hu) h1 hb hbytes hbase
    have hv : ∃ ao cap, v' = .slice ao (n + m) cap := by
      rcases ho.2 with ⟨a, b⟩ | ⟨g, cap, cur, hv, _⟩
      · rw [b]; exact ⟨_, _, a⟩
      · exact ⟨_, _, hv⟩
    obtain ⟨ao, cap', rfl⟩ := hv
    exact ⟨ao, cap', w', hr, ho, hg, (Below.refl _ _).grown hg hbase fun k hk => (hlt k hk).1⟩

/-- 'append([]byte{}, x...)': nothing that was there is written. -/
theorem run_append_empty (base t ty e : Nat) (ht : P.underlying t = some (.slice e)) (hi : (P.info? e).map (fun i => (i.zero, i.size, i.bytes)) = some (some (.int .u8 0), 1, 1))
    {w : World} {b : Addr} {v u : Value} (hv : v = .slice (some b) 0 0) (hown : Own w base e v []) {l : List UInt8} (hsl : Byt w u l) (hb : l.length ≤ 140737488355328) (hbase : base ≤ w.heap.size) :
    ∃ ao cap w', (Builtin.append_ #[t, t] ty #[v, u]).run P w = .ok (.slice ao l.length cap) w' ∧ Own w' base e (.slice ao l.length cap) l ∧ Ext w w' := by
  subst hv
  obtain ⟨i, hi1, hz, hs, hby⟩ := info_parts hi
  by_cases h0 : l = []
  · subst h0
    obtain ⟨hl, ao, cap, rfl, h3, h4, h5, h6⟩ := hsl
    refine ⟨some b, 0, w, ?_, hown, Ext.refl _⟩
    cases ao with
    | none => simp [Builtin.append_, run_underlying ht, sizeOf, typeInfo, hi1, Builtin.lenOf, Builtin.firstCells, storeCells]
    | some a => simp [Builtin.append_, run_underlying ht, sizeOf, typeInfo, hi1, Builtin.lenOf, Builtin.firstCells, storeCells, loadCells, loadCellsFrom]
  · obtain ⟨hl, ao, cap, rfl, h3, h4, h5, h6⟩ := hsl
    have hpos : 0 < l.length := List.length_pos_iff.2 h0
    cases ao with
    | none => have := h5 rfl; omega
    | some a =>
      have hr := run_append_grow (P := P) w t ty e i (.int .u8 0) ht hi1 hz b 0 0 [] (by simp) (by simp) a l.length cap (l.map bv) (by rw [hs]; exact hl) (fun j u hu => h6 a rfl j u hu) (by omega) (by omega)
        (by rw [Nat.zero_add, nextslicecap_zero hpos, hby]; omega)
      rw [Nat.zero_add] at hr
      refine ⟨_, _, _, hr, ?_, (Ext.drew w).trans (Ext.alloc _ _)⟩
      have hge := grownCap_ge w l.length 0 e
      refine ⟨by simp, .inr ⟨w.heap.size, grownCap w l.length 0 e, _, rfl, hbase, heap_alloc_new w.drew _, hge, ?_, ?_, ?_⟩⟩
      · exact grownCap_le_maxLen w l.length 0 e (by simp [maxLen]; omega)
      · simp [size_zeroCells, Value.cells]; omega
      · simp
theorem wpList_append_sl {ops : Array Oper} {rest : List Oper} {o : Oper} {a : Act} {w : World} {Q : Exit → Act → World → Prop} (hgd : o.guard = none) (s x : Operand) (t : Nat)
    (ho : o.op = .call { callee := .builtin .append, args := #[s, x], argTypes := #[t, t] }) (base e : Nat) {z : Value} {size bytes : Nat} (ht : P.underlying t = some (.slice e))
    (hi : (P.info? e).map (fun i => (i.zero, i.size, i.bytes)) = some (some z, size, bytes)) (hzs : z.cells.size = size) (hsz : 0 < size)
    {v : Value} {n : Nat} {xs : List Value} (hs : a.eval s = v) (hown : w.ownsRow base e size v n xs) {u : Value} {m : Nat} {ys : List Value} (hx : a.eval x = u) (hsl : Sl w size u m ys)
    (h1 : ∀ y ∈ ys, y.oneCell' = true) (hb : n + m ≤ maxLen) (hbytes : (n + m) * bytes ≤ 140737488355328) (hbase : base ≤ w.heap.size)
    (h : ∀ ao cap w', w'.ownsRow base e size (.slice ao (n + m) cap) (n + m) (xs ++ ys) → w.grownBy w' v.ownBlock → Below base w w' → wpList P ops Q rest (a.put o.dst (.slice ao (n + m) cap)) w') :
    wpList P ops Q (o :: rest) a w := by
  obtain ⟨ao, cap, w', hr, h2, h3, h4⟩ := run_append_sl (P := P) base t o.type e ht hi hzs hsz hown hsl h1 hb hbytes hbase
  refine wpList_plain hgd fun K hK => ?_
  unfold Oper.wp execOp
  subst hs hx
  simp only [ho, resolve, invoke, builtin, Sem.run_bind, Sem.run_pure, Result.andThen_ok, List.map_toArray, List.map_cons, List.map_nil, hr]
  exact hK _ _ (h ao cap w' h2 h3 h4)

theorem run_append_byt (base t ty e : Nat) (ht : P.underlying t = some (.slice e)) (hi : (P.info? e).map (fun i => (i.zero, i.size, i.bytes)) = some (some (.int .u8 0), 1, 1))
    {w : World} {v u : Value} {l1 l2 : List UInt8} (hown : Own w base e v l1) (hsl : Byt w u l2) (hb : l1.length + l2.length ≤ 140737488355328) (hbase : base ≤ w.heap.size) :
    ∃ ao cap w', (Builtin.append_ #[t, t] ty #[v, u]).run P w = .ok (.slice ao (l1.length + l2.length) cap) w' ∧ Own w' base e (.slice ao (l1.length + l2.length) cap) (l1 ++ l2) ∧ w.grownBy w' v.ownBlock ∧ Below base w w' := by
  obtain ⟨ao, cap, w', h1, h2, h3, h4⟩ := run_append_sl (P := P) base t ty e ht hi rfl (by decide) hown hsl (bv_one _) (by simp [maxLen]; omega) (by omega) hbase
  exact ⟨ao, cap, w', h1, by unfold Own; simpa using h2, h3, h4⟩
/-- The same, of bytes: 'N': how many there are then, as the slot shall spell it. -/
theorem wpList_append_byt {ops : Array Oper} {rest : List Oper} {o : Oper} {a : Act} {w : World} {Q : Exit → Act → World → Prop} (hgd : o.guard = none) (s x : Operand) (t : Nat)
    (ho : o.op = .call { callee := .builtin .append, args := #[s, x], argTypes := #[t, t] }) (base e : Nat) (ht : P.underlying t = some (.slice e))
    (hi : (P.info? e).map (fun i => (i.zero, i.size, i.bytes)) = some (some (.int .u8 0), 1, 1))
    {v : Value} {l1 : List UInt8} (hs : a.eval s = v) (hown : Own w base e v l1) {u : Value} {l2 : List UInt8} (hx : a.eval x = u) (hsl : Byt w u l2)
    (N : Nat) (hN : N = l1.length + l2.length) (hb : N ≤ 140737488355328) (hbase : base ≤ w.heap.size)
    (h : ∀ ao cap w', Own w' base e (.slice ao N cap) (l1 ++ l2) → w.grownBy w' v.ownBlock → Below base w w' → wpList P ops Q rest (a.put o.dst (.slice ao N cap)) w') :
    wpList P ops Q (o :: rest) a w := by
  subst hN
  refine wpList_append_sl hgd s x t ho base e ht hi rfl (by decide) hs hown hx hsl (bv_one _) (by simp [maxLen]; omega) (by omega) hbase fun ao cap w' h1 h2 h3 => h ao cap w' ?_ h2 h3
  unfold Own; simpa using h1
end

/-- From the frame's reading of an argument (numbers in cells) to bytes. -/
theorem byt_of_row {w : World} {a : Option Addr} {len cap : Nat} {zs : List Int}
    (h : (a = none ∧ len = 0 ∧ cap = 0 ∧ zs = []) ∨
      ∃ x, a = some x ∧ len ≤ cap ∧ cap ≤ maxLen ∧ zs.length = cap ∧ (∀ i, i < zs.length → w.cell? (x.add i) = some (.int .u8 (zs.getD i 0))) ∧ ∀ n ∈ zs, (Lit.int .u8 n).wf = true) :
    ∃ l : List UInt8, Byt w (.slice a len cap) l := by
  rcases h with ⟨rfl, rfl, rfl, rfl⟩ | ⟨x, rfl, hlc, hcm, hz, hc, hw⟩
  · exact ⟨[], Sl.nil w 1⟩
  · refine ⟨(zs.take len).map fun n => UInt8.ofNat n.toNat, ?_⟩
    have hlen : ((zs.take len).map fun n => UInt8.ofNat n.toNat).length = len := by simp; omega
    unfold Byt
    rw [hlen]
    refine ⟨by simp; omega, some x, cap, rfl, hlc, hcm, (fun h => by cases h), fun a ha j u hu => ?_⟩
    cases ha
    have hj : j < len := by
      rcases Nat.lt_or_ge j len with h | h
      · exact h
      · rw [List.getElem?_eq_none (by simp; omega)] at hu; cases hu
    have hjz : j < zs.length := by omega
    rw [hc j hjz]
    have hwj := hw (zs.getD j 0) (by simp [List.getD, hjz])
    have hb : 0 ≤ zs.getD j 0 ∧ zs.getD j 0 ≤ 255 := by simpa [Lit.wf, IntKind.min, IntKind.max, IntKind.signed, IntKind.bits] using hwj
    simp [hj, hjz, bv] at hu
    rw [← hu]
    simp [List.getD, hjz] at hb ⊢
    omega
end Go.Tum
