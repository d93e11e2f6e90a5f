/- The disk in memory; New, Down, Fuse, missing, creates. -/
import Derived.Test.YtijpokajhjhllaaGreatDoorDskP
import Derived.Test.YtijpokajhjhllaaGreatDoorVec
import Derived.Test.YtijpokajhjhllaaGreatDoorParE
import Derived.Carry
import Derived.Deep.QuietTactic
import Derived.BigQuiet
import Derived.Handy
set_option linter.unusedSimpArgs false
set_option linter.unusedVariables false
namespace Go.Proofs.YtijpokajhjhllaaGreatDoor
open Go Go.RowKit Go.Tum Go.ChangeMaps

abbrev pv (b : Nat) : Value := .pointer (some ⟨b, 0, none⟩)
theorem lk6 {w : World} {b : Nat} {v0 v1 v2 v3 v4 v5 : Value} {ty : TypeId} (h : w.heap[b]? = some (.cells #[v0, v1, v2, v3, v4, v5] ty (0, 0))) :
    (w.cell? ⟨b, 0, none⟩ = some v0 ∧ w.cell? ⟨b, 1, none⟩ = some v1 ∧ w.cell? ⟨b, 2, none⟩ = some v2 ∧ w.cell? ⟨b, 3, none⟩ = some v3 ∧ w.cell? ⟨b, 4, none⟩ = some v4 ∧ w.cell? ⟨b, 5, none⟩ = some v5) ∧ (∀ i, w.frozen? ⟨b, i, none⟩ = false) := by
  refine ⟨⟨by rw [cell_of_row _ _ _ _ _ _ h]; rfl, by rw [cell_of_row _ _ _ _ _ _ h]; rfl, by rw [cell_of_row _ _ _ _ _ _ h]; rfl, by rw [cell_of_row _ _ _ _ _ _ h]; rfl, by rw [cell_of_row _ _ _ _ _ _ h]; rfl, by rw [cell_of_row _ _ _ _ _ _ h]; rfl⟩, fun i => by simp [World.frozen?, h]⟩
theorem lk2 {w : World} {b : Nat} {v0 v1 : Value} {ty : TypeId} (h : w.heap[b]? = some (.cells #[v0, v1] ty (0, 0))) :
    w.cell? ⟨b, 0, none⟩ = some v0 ∧ w.cell? ⟨b, 1, none⟩ = some v1 ∧ (∀ i, w.frozen? ⟨b, i, none⟩ = false) := by
  refine ⟨by rw [cell_of_row _ _ _ _ _ _ h]; rfl, by rw [cell_of_row _ _ _ _ _ _ h]; rfl, fun i => by simp [World.frozen?, h]⟩
theorem lk3 {w : World} {b : Nat} {v0 v1 v2 : Value} {ty : TypeId} (h : w.heap[b]? = some (.cells #[v0, v1, v2] ty (0, 0))) :
    w.cell? ⟨b, 0, none⟩ = some v0 ∧ w.cell? ⟨b, 1, none⟩ = some v1 ∧ w.cell? ⟨b, 2, none⟩ = some v2 ∧ (∀ i, w.frozen? ⟨b, i, none⟩ = false) := by
  refine ⟨by rw [cell_of_row _ _ _ _ _ _ h]; rfl, by rw [cell_of_row _ _ _ _ _ _ h]; rfl, by rw [cell_of_row _ _ _ _ _ _ h]; rfl, fun i => by simp [World.frozen?, h]⟩
theorem lk1 {w : World} {b : Nat} {v0 : Value} {ty : TypeId} (h : w.heap[b]? = some (.cells #[v0] ty (0, 0))) : w.cell? ⟨b, 0, none⟩ = some v0 ∧ w.frozen? ⟨b, 0, none⟩ = false := by
  constructor <;> simp [World.cell?, World.frozen?, h]
/-- What may be taken for granted of a disk. -/
structure Gd (s : PS) : Prop where
  rm : s.room ≤ 1048576
  ds : ∀ k, Sorted (dirAt s.sure (s.opn.take k))
  nm : ∀ k, ∀ z ∈ dirAt s.sure (s.opn.take k), nmOk z.1 = true ∧ z.2 < s.files.length
  op : ∀ c ∈ s.opn, c.frm.length ≤ 12 ∧ c.to.length ≤ 12 ∧ (∀ f, c.file = some f → f < s.files.length) ∧ (c.frm = [] → c.file.isSome = true)
  fl : ∀ x ∈ s.files, x.2 ≤ x.1.length ∧ x.1.length ≤ 1048576
  hd : held s ≤ s.room
  dk : ∀ k, (dirAt s.sure (s.opn.take k)).length ≤ 60
  fu : -1 ≤ s.fuse ∧ s.fuse ≤ 9223372036854775807
/-- Where it lies: its maps, the row of its changes, each file's block and bytes. -/
structure DX where
  md : Nat
  ms : Nat
  vo : Value
  bl : List (Nat × Value)
def DX.bk (x : DX) (f : Nat) : Nat := (x.bl.getD f (0, .slice none 0 0)).1
def DX.sv (x : DX) (f : Nat) : Value := (x.bl.getD f (0, .slice none 0 0)).2
def DX.hb (x : DX) (d : Dir) : Dir := d.map fun z => (z.1, x.bk z.2)
def DX.cc (x : DX) (c : Chg) : List Value := [vN c.frm, vN c.to, ptr (c.file.map x.bk)]
def oB (v : Value) : List Nat := match v.ownBlock with | some g => [g] | none => []
/-- Its blocks. -/
def DX.blk (x : DX) (p : Nat) : List Nat := p :: x.md :: x.ms :: (oB x.vo ++ x.bl.map Prod.fst ++ x.bl.flatMap fun z => oB z.2)
abbrev diskO (x : DX) (s : PS) : Obj := .cells #[.int .i64 (s.room : Int), .map (some x.md), .map (some x.ms), x.vo, .int .i64 s.fuse, .bool s.down] 71 (0, 0)
abbrev fileO (v : Value) (n : Nat) : Obj := .cells #[v, .int .i64 (n : Int)] 104 (0, 0)
structure Dk (B : Nat) (w : World) (p : Nat) (x : DX) (s : PS) : Prop where
  hd : w.heap[p]? = some (diskO x s)
  dr : PM w x.md (x.hb s.dir)
  sr : PM w x.ms (x.hb s.sure)
  op : w.ownsRow B 93 3 x.vo s.opn.length (s.opn.flatMap x.cc)
  fn : x.bl.length = s.files.length
  fi : ∀ i (h : i < s.files.length), w.heap[x.bk i]? = some (fileO (x.sv i) s.files[i].2) ∧ Own w B 5 (x.sv i) s.files[i].1
  fd : (x.bl.map Prod.fst).Nodup
  od : ∀ i j, i < s.files.length → j < s.files.length → i ≠ j → ∀ g, (x.sv i).ownBlock = some g → (x.sv j).ownBlock ≠ some g
  ne : x.md ≠ x.ms
  lo : B ≤ p ∧ B ≤ x.md ∧ B ≤ x.ms ∧ ∀ i, i < s.files.length → B ≤ x.bk i
  gd : Gd s
theorem ownsRow_fr {w w' : World} {b e n s : Nat} {v : Value} {xs : List Value} {S : List Nat} (h : w.ownsRow b e s v n xs) (f : Fr S w w') (hs : ∀ q ∈ oB v, q ∉ S) : w'.ownsRow b e s v n xs := by
  refine ⟨h.1, ?_⟩
  rcases h.2 with hn | ⟨g, cap, cur, hv, hb, hgg, rest⟩
  · exact .inl hn
  · refine .inr ⟨g, cap, cur, hv, hb, ?_, rest⟩
    rw [f.block g (Array.getElem?_eq_some_iff.1 hgg).1 (hs g (by rw [hv]; simp [oB, Value.ownBlock]))]; exact hgg
theorem ownsRow_fr2 {w w' : World} {b e n s : Nat} {v : Value} {xs : List Value} {S : List Nat} (h : w.ownsRow b e s v n xs) (f : Fr S w w') (hs : ∀ q ∈ S, ∃ o, w.heap[q]? = some o ∧ ∀ cs, o ≠ .cells cs e (0, 0)) : w'.ownsRow b e s v n xs := by
  refine ownsRow_fr h f fun q hq hS => ?_
  obtain ⟨o, ho, hne⟩ := hs q hS
  rcases h.2 with ⟨hv, -⟩ | ⟨g, cap, cur, hv, hb, hgg, rest⟩
  · rw [hv] at hq; simp [oB, Value.ownBlock] at hq
  · rw [hv] at hq
    simp [oB, Value.ownBlock] at hq
    subst hq
    rw [ho] at hgg; cases hgg; exact hne _ rfl
section
variable {B : Nat} {w w' : World} {p : Nat} {x : DX} {s : PS}
theorem getD_mem {α : Type} {l : List α} {i : Nat} {d : α} (h : i < l.length) : l.getD i d ∈ l := by
  rw [List.getD_eq_getElem?_getD, List.getElem?_eq_getElem h]; exact List.getElem_mem h
theorem Dk.bk_mem (h : Dk B w p x s) {i : Nat} (hi : i < s.files.length) : x.bk i ∈ x.bl.map Prod.fst := List.mem_map_of_mem (f := Prod.fst) (getD_mem (by rw [h.fn]; exact hi))
theorem Dk.fr (h : Dk B w p x s) {S : List Nat} (f : Fr S w w') (hs : ∀ q ∈ x.blk p, q ∉ S) : Dk B w' p x s := by
  have h1 : ∀ q, q ∈ x.bl.map Prod.fst → q ∉ S := fun q hq => hs q (by unfold DX.blk; simp only [List.mem_cons, List.mem_append]; exact .inr (.inr (.inr (.inl (.inr hq)))))
  refine ⟨(f.block p (Array.getElem?_eq_some_iff.1 h.hd).1 (hs p (by simp [DX.blk]))).trans h.hd, h.dr.fr f (hs _ (by simp [DX.blk])), h.sr.fr f (hs _ (by simp [DX.blk])),
    ownsRow_fr h.op f fun q hq => hs q (by unfold DX.blk; simp only [List.mem_cons, List.mem_append]; exact .inr (.inr (.inr (.inl (.inl hq))))), h.fn, fun i hi => ?_, h.fd, h.od, h.ne, h.lo, h.gd⟩
  obtain ⟨a, b⟩ := h.fi i hi
  exact ⟨(f.block _ (Array.getElem?_eq_some_iff.1 a).1 (h1 _ (h.bk_mem hi))).trans a, ownsRow_fr b f fun q hq => hs q (by
    unfold DX.blk; simp only [List.mem_cons, List.mem_append, List.mem_flatMap]
    exact .inr (.inr (.inr (.inr ⟨_, getD_mem (by rw [h.fn]; exact hi), hq⟩))))⟩
theorem Dk.ext (h : Dk B w p x s) (k : Ext w w') : Dk B w' p x s := h.fr (S := []) (Ext.fr k) (by simp)
theorem Dk.bk_ne (h : Dk B w p x s) {i j : Nat} (hi : i < s.files.length) (hj : j < s.files.length) (hij : i ≠ j) : x.bk i ≠ x.bk j := by
  intro e
  have h1 : i < x.bl.length := by rw [h.fn]; exact hi
  have h2 : j < x.bl.length := by rw [h.fn]; exact hj
  have e1 : x.bk i = (x.bl.map Prod.fst)[i]'(by simpa using h1) := by simp [DX.bk, List.getD_eq_getElem?_getD, h1]
  have e2 : x.bk j = (x.bl.map Prod.fst)[j]'(by simpa using h2) := by simp [DX.bk, List.getD_eq_getElem?_getD, h2]
  rw [e1, e2] at e
  exact hij ((List.getElem_inj h.fd).1 e)
theorem Gd.dirs (h : Gd s) : Sorted s.dir := by
  have := h.ds s.opn.length
  rwa [List.take_length] at this
theorem Gd.dl (h : Gd s) : s.dir.length ≤ 60 := by
  have := h.dk s.opn.length
  rwa [List.take_length] at this
theorem Gd.dnm (h : Gd s) {z : Nm × Nat} (hz : z ∈ s.dir) : nmOk z.1 = true ∧ z.2 < s.files.length := by
  have := h.nm s.opn.length z
  rw [List.take_length] at this
  exact this hz
theorem Gd.sures (h : Gd s) : Sorted s.sure := h.ds 0
theorem Gd.snm (h : Gd s) {z : Nm × Nat} (hz : z ∈ s.sure) : nmOk z.1 = true ∧ z.2 < s.files.length := h.nm 0 z hz
theorem nmOk_len {n : Nm} (h : nmOk n = true) : 1 ≤ n.length ∧ n.length ≤ 12 := by
  unfold nmOk at h
  simp at h
  exact h.1
theorem hb_look (x : DX) (d : Dir) (n : Nm) : (x.hb d).lookup n = (look d n).map x.bk := by
  induction d with
  | nil => rfl
  | cons z r ih =>
    obtain ⟨a, b⟩ := z
    show List.lookup n ((a, x.bk b) :: x.hb r) = _
    rw [lk_cons, look_cons, ih]
    split <;> rfl
theorem hb_len (x : DX) (d : Dir) : (x.hb d).length = d.length := by simp [DX.hb]
/-- Of what was the disk's, only that may have turned; what is the disk's now was it, or is new. -/
def Stp (B : Nat) (w : World) (p : Nat) (x : DX) (s' : PS) (w' : World) : Prop := ∃ x', Dk B w' p x' s' ∧ Fr (x.blk p) w w' ∧ Below B w w' ∧ ∀ q ∈ x'.blk p, q ∈ x.blk p ∨ w.heap.size ≤ q
theorem Stp.same (h : Dk B w p x s) (k : Ext w w') (hB : B ≤ w.heap.size) : Stp B w p x s w' := ⟨x, h.ext k, Ext.fr k, k.mono hB, fun q hq => .inl hq⟩
end
theorem block_set6 {w : World} {b : Nat} {cs : Array Value} {ty : TypeId} (h : w.heap[b]? = some (.cells cs ty (0, 0))) (i : Nat) (u : Value) : (w.setCell ⟨b, i, none⟩ u).heap[b]? = some (.cells (cs.setIfInBounds i u) ty (0, 0)) := by
  simpa using Go.Joins.block_setCell (i := i) h u

/-! ### New, Down -/
def DNewP (B : Nat) (w : World) (room : Int) (e : Ending) (w' : World) : Prop :=
  (room < 16 ∨ 1048576 < room → e = .returned (.tuple #[.pointer none, .int .i64 1]) ∧ Ext w w') ∧
  (16 ≤ room → room ≤ 1048576 → ∃ p x, e = .returned (.tuple #[pv p, .int .i64 0]) ∧ Dk B w' p x (newP room.toNat) ∧ Ext w w' ∧ ∀ q ∈ x.blk p, w.heap.size ≤ q)
set_option maxHeartbeats 1000000 in
theorem dnew_any (w : World) (B : Nat) (hB : B ≤ w.heap.size) (room : Int) :
    Calls Tryz.prog 5 #[.int .i64 room] w fun e w' => DNewP B w room e w' := by
  have hmm := @run_makeMap Tryz.prog
  by_cases h1 : room < 16
  · have e1 : decide (room < 16) = true := by simpa using h1
    have H1 := hid h1
    clear h1
    go_enter Tryz.func5, Tryz.ntmps5
    go_wp2
    go_returns
    refine ⟨fun _ => ⟨rfl, Ext.refl _⟩, fun h => ?_⟩
    have := H1.out; omega
  · have e1 : decide (room < 16) = false := by simpa using h1
    by_cases h2 : 1048576 < room
    · have e2 : decide (room > 1048576) = true := by simpa using h2
      have H1 := hid h1
      have H2 := hid h2
      clear h1 h2
      go_enter Tryz.func5, Tryz.ntmps5
      go_wp2
      go_returns
      refine ⟨fun _ => ⟨rfl, Ext.refl _⟩, fun _ h => ?_⟩
      have := H2.out; omega
    · have e2 : decide (room > 1048576) = false := by simp; omega
      have H1 := hid h1
      have H2 := hid h2
      clear h1 h2
      go_enter Tryz.func5, Tryz.ntmps5
      go_wp2
      go_returns
      refine ⟨fun h => ?_, fun h16 hmx => ?_⟩
      · have := H1.out; have := H2.out; omega
      · refine ⟨w.heap.size + 1 + 1, ⟨w.heap.size, w.heap.size + 1, .slice none 0 0, []⟩, rfl, ?_, ?_, ?_⟩
        · refine ⟨?_, ?_, ?_, World.ownsRow_nil _ _ _ _, rfl, fun i hi => absurd hi (by simp [newP]), by simp, fun i j hi => absurd hi (by simp [newP]), by simp, ⟨by omega, by show B ≤ w.heap.size; omega, by show B ≤ w.heap.size + 1; omega, fun i hi => absurd hi (by simp [newP])⟩, ⟨?_, ?_, ?_, ?_, ?_, ?_, ?_, by simp [newP]⟩⟩
          · have := heap_alloc_new ((w.alloc (.map #[] 0)).alloc (.map #[] 0)) (.cells #[.int .i64 room, .map (some w.heap.size), .map (some (w.heap.size + 1)), .slice none 0 0, .int .i64 (-1), .bool false] 71 (0, 0))
            rw [World.size_alloc, World.size_alloc] at this
            have hr : ((room.toNat : Nat) : Int) = room := by omega
            unfold diskO newP
            simp only [hr]
            exact this
          · exact ((PM.made w).fr (S := []) (Ext.fr (Ext.alloc _ _)) (by simp)).fr (S := []) (Ext.fr (Ext.alloc _ _)) (by simp)
          · have := (PM.made (w.alloc (.map #[] 0))).fr (S := []) (Ext.fr (Ext.alloc _ (.cells #[.int .i64 room, .map (some w.heap.size), .map (some (w.heap.size + 1)), .slice none 0 0, .int .i64 (-1), .bool false] 71 (0, 0)))) (by simp)
            rw [World.size_alloc] at this
            exact this
          · show room.toNat ≤ 1048576; omega
          · intro k; simp [newP, dirAt]
          · intro k z hz; simp [newP, dirAt] at hz
          · intro c hc; simp [newP] at hc
          · intro y hy; simp [newP] at hy
          · simp [newP, held, cntd, newOf, sumL]
          · intro k; simp [newP, dirAt]
        · exact ((Ext.alloc _ _).trans (Ext.alloc _ _)).trans (Ext.alloc _ _)
        · intro q hq
          simp [DX.blk, oB, Value.ownBlock] at hq
          omega
theorem ddown_any {B : Nat} {w : World} {p : Nat} {x : DX} {s : PS} (h : Dk B w p x s) :
    Calls Tryz.prog 32 #[pv p] w fun e w' => e = .returned (.bool s.down) ∧ w = w' := by
  obtain ⟨⟨-, -, -, -, -, c5⟩, -⟩ := lk6 h.hd
  clear h
  go_enter Tryz.func32, Tryz.ntmps32
  go_wp2
  go_ret
  exact ⟨rfl, rfl⟩
theorem dmiss_any {B : Nat} {w : World} {p : Nat} {x : DX} {s : PS} (n : Nm) (hn : n.length ≤ maxLen) (h : Dk B w p x s) :
    Calls Tryz.prog 67 #[pv p, vN n] w fun e w' => e = .returned (.int .i64 (missP s n : Nat)) ∧ w = w' := by
  obtain ⟨⟨-, c1, -⟩, -⟩ := lk6 h.hd
  have hlk := h.dr.look n hn
  rw [hb_look] at hlk
  unfold missP
  clear h
  cases hf : look s.dir n with
  | none =>
    rw [hf] at hlk
    simp only [Option.map_none, ptr] at hlk
    simp only [if_true]
    clear hf
    go_enter Tryz.func67, Tryz.ntmps67
    go_wp2
    go_ret
    exact ⟨rfl, rfl⟩
  | some f =>
    rw [hf] at hlk
    simp only [Option.map_some, ptr] at hlk
    simp only [reduceCtorEq, if_false]
    clear hf
    generalize x.bk f = b at *
    go_enter Tryz.func67, Tryz.ntmps67
    go_wp2
    go_ret
    exact ⟨rfl, rfl⟩
theorem dcre_any (w : World) (a b : Nm) (v : Value) (hv : v.oneCell' = true) :
    Calls Tryz.prog 73 #[.agg #[vN a, vN b, v]] w fun e w' => e = .returned (.bool a.isEmpty) ∧ Ext w w' := by
  go_enter Tryz.func73, Tryz.ntmps73
  go_wp2
  go_ret
  exact ⟨rfl, Ext.alloc _ _⟩
end Go.Proofs.YtijpokajhjhllaaGreatDoor
