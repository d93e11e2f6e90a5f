/- The laws' acts: as arguments; large; the disk's blocks lie high. -/
import Derived.Test.YtkaafllbmeppnaaDskK
import Derived.Test.YtkaafllbmeppnaaOpen
import Derived.Deep.QuietTactic
import Derived.BigQuiet
import Derived.Handy
set_option linter.unusedSimpArgs false
set_option linter.unusedVariables false
namespace Go.Proofs.Ytkaafllbmeppnaa
open Go Go.RowKit Go.Tum Go.ChangeMaps Go.WideShapes Go.ChangeShapes

/-- An act of the laws. -/
structure At where
  dn : Int
  n : Int
  name : Nm
  to : Nm
  b : List UInt8
  ts : List Int
/-- .. with where its slices lie. -/
abbrev AtV := At × Value × Value
abbrev acells (p : AtV) : List Value := [.int .i64 p.1.dn, .int .i64 p.1.n, vN p.1.name, vN p.1.to, p.2.1, p.2.2]
def i64 (z : Int) : Prop := -9223372036854775808 ≤ z ∧ z ≤ 9223372036854775807
structure AtOk (w : World) (p : AtV) : Prop where
  name : p.1.name.length ≤ maxLen
  to : p.1.to.length ≤ maxLen
  n : i64 p.1.n
  b : Byt w p.2.1 p.1.b
  t : Vec Go.Tum.iv w p.2.2 p.1.ts
  ts : ∀ t ∈ p.1.ts, i64 t
theorem AtOk.ext {w w' : World} {p : AtV} (h : AtOk w p) (k : Ext w w') : AtOk w' p := ⟨h.name, h.to, h.n, h.b.ext k, h.t.ext k, h.ts⟩
/-- The slice v holds the acts m. -/
def Acts (w : World) (v : Value) (m : List AtV) : Prop := RowsOf w 6 v acells m ∧ ∀ p ∈ m, AtOk w p

theorem i64_of {n : Int} (h : (Lit.int .i64 n).wf = true) : i64 n := by
  simpa [i64, Lit.wf, IntKind.min, IntKind.max, IntKind.signed, IntKind.bits] using h
theorem vec_of_row_i64 {w : World} {a : Option Addr} {len cap : Nat} {zs : List Int}
    (h : (a = none ∧ len = 0 ∧ cap = 0 ∧ zs = []) ∨
      ∃ x, a = some x ∧ len ≤ cap ∧ cap ≤ maxLen ∧ zs.length = cap ∧ (∀ i, i < zs.length → w.cell? (x.add i) = some (.int .i64 (zs.getD i 0))) ∧ ∀ n ∈ zs, (Lit.int .i64 n).wf = true) :
    ∃ l : List Int, Vec Go.Tum.iv w (.slice a len cap) l ∧ ∀ t ∈ l, i64 t := by
  rcases h with ⟨rfl, rfl, rfl, rfl⟩ | ⟨x, rfl, hlc, hcm, hz, hc, hw⟩
  · exact ⟨[], Sl.nil w 1, fun t h => absurd h (by simp)⟩
  · refine ⟨zs.take len, ?_, fun t ht => i64_of (hw t (List.mem_of_mem_take ht))⟩
    have hlen : (zs.take len).length = len := by simp; omega
    unfold Vec
    rw [hlen]
    refine ⟨by simp; omega, some x, cap, rfl, hlc, hcm, (fun h => by cases h), fun a ha j u hu => ?_⟩
    cases ha
    have hj : j < len := by
      rcases Nat.lt_or_ge j len with h | h
      · exact h
      · rw [List.getElem?_eq_none (by simp; omega)] at hu; cases hu
    have hjz : j < zs.length := by omega
    have h1 := hc j hjz
    rw [List.getElem?_map, List.getElem?_take_of_lt hj, List.getElem?_eq_getElem hjz] at hu
    simp at hu
    rw [h1, ← hu]
    simp [List.getD_eq_getElem?_getD, hjz]

section
variable {H : Type} {enc : TypeId × Value → H} {w : World} {base : Nat} {held : Bool}
theorem nm_of (s : ByteArray) : s = str s.data.toList := by
  apply ByteArray.ext
  simp [str]
theorem nm_len {s : ByteArray} (h : s.size ≤ maxLen) : s.data.toList.length ≤ maxLen := by
  have : s.data.toList.length = s.size := Array.length_toList
  rw [this]; exact h
set_option maxRecDepth 100000 in
theorem open_ivs {v : Value} {fuel : Nat} {x : DataW H × List MemPlace} (h : DataW.trod enc Try.prog w base (fun _ => true) held fuel 33 [v] = some x) :
    ∃ l : List Int, Vec Go.Tum.iv w v l ∧ ∀ t ∈ l, i64 t := by
  rcases open_ints Try.underlying33 Try.underlying3 (by kernel_rfl) h with ⟨h0, _⟩ | ⟨a, len, cap, zs, hcs, hb, hl, hm, hz, hx, hcell, hw⟩
  · simp at h0; subst h0
    exact vec_of_row_i64 (.inl ⟨rfl, rfl, rfl, rfl⟩)
  · simp at hcs; subst hcs
    exact vec_of_row_i64 (.inr ⟨a, rfl, hl, hm, by simpa using hz, hcell, hw⟩)
set_option maxRecDepth 100000 in
theorem open_acts {v : Value} {d : DataW H} {p : List MemPlace} {r : Reach} {b0 : Nat} (hval : Value.okWide Try.prog w r b0 22 v) (h : DataW.Trod enc Try.prog w base (fun _ => true) held 22 v d p) :
    ∃ m : List AtV, Acts w v m := by
  obtain ⟨a, len, cap, rfl⟩ := okWide_slice Try.underlying22 hval
  obtain ⟨fuel, hf⟩ := h
  replace hf : DataW.trod enc Try.prog w base (fun _ => true) held fuel 22 [.slice a len cap] = some (d, p) := hf
  rcases open_slice_fields Try.underlying22 Try.underlying35 (by kernel_rfl) (by kernel_rfl) hf with ⟨h0, _⟩ | ⟨a, len, cap, m, D, Pl, hcs, hb, hl, hm, hmm, hx, hi⟩
  · simp at h0
    obtain ⟨rfl, rfl, rfl⟩ := h0
    exact ⟨[], RowsOf.nil _ _ _, fun p h => absurd h (by simp)⟩
  · simp at hcs
    obtain ⟨rfl, rfl, rfl⟩ := hcs
    simp at hmm
    subst hmm
    have hrow : ∀ i, i < len → ∃ q : AtV, AtOk w q ∧ ∀ j u, (acells q)[j]? = some u → w.cell? (a.add (i * 6 + j)) = some u := by
      intro i hil
      obtain ⟨ys, n, -, -, -, hfj⟩ := hi i (by omega)
      obtain ⟨u0, y0, k0, -, t0⟩ := hfj 0 _ rfl
      obtain ⟨u1, y1, k1, -, t1⟩ := hfj 1 _ rfl
      obtain ⟨u2, y2, k2, -, t2⟩ := hfj 2 _ rfl
      obtain ⟨u3, y3, k3, -, t3⟩ := hfj 3 _ rfl
      obtain ⟨u4, y4, k4, -, t4⟩ := hfj 4 _ rfl
      obtain ⟨u5, y5, k5, -, t5⟩ := hfj 5 _ rfl
      obtain ⟨z0, e, -, hw0⟩ := DataW.trod_int Try.underlying3 t0
      simp at e; subst e
      obtain ⟨z1, e, -, hw1⟩ := DataW.trod_int Try.underlying3 t1
      simp at e; subst e
      obtain ⟨s2, e, -, hs2⟩ := DataW.trod_string Try.underlying9 t2
      simp at e; subst e
      obtain ⟨s3, e, -, hs3⟩ := DataW.trod_string Try.underlying9 t3
      simp at e; subst e
      obtain ⟨l4, h4⟩ := open_byt_trod Try.underlying32 Try.underlying5 (by kernel_rfl) t4
      obtain ⟨l5, h5, h6⟩ := open_ivs t5
      refine ⟨(⟨z0, z1, s2.data.toList, s3.data.toList, l4, l5⟩, u4, u5), ⟨nm_len hs2, nm_len hs3, i64_of hw1, h4, h5, h6⟩, fun j u hu => ?_⟩
      match j, hu with
      | 0, hu => simp at hu; subst hu; exact k0
      | 1, hu => simp at hu; subst hu; exact k1
      | 2, hu => simp at hu; subst hu; rw [nm_of s2] at k2; exact k2
      | 3, hu => simp at hu; subst hu; rw [nm_of s3] at k3; exact k3
      | 4, hu => simp at hu; subst hu; exact k4
      | 5, hu => simp at hu; subst hu; exact k5
    obtain ⟨q, hq, hQ⟩ := list_of len hrow
    refine ⟨q, RowsOf.mk' hq hl hm (by decide) (fun _ _ => rfl) (fun i h j u hu => (hQ i h).2 j u hu), ?_⟩
    intro p hp
    obtain ⟨i, hil, rfl⟩ := List.mem_iff_getElem.1 hp
    exact (hQ i hil).1
end

theorem Dk.low {B : Nat} {w : World} {p : Nat} {x : DX} {s : PS} (h : Dk B w p x s) : ∀ q ∈ x.blk p, B ≤ q := by
  intro q hq
  unfold DX.blk at hq
  simp only [List.mem_cons, List.mem_append, List.mem_flatMap, List.mem_map] at hq
  rcases hq with rfl | rfl | rfl | (hq | ⟨z, hz, rfl⟩) | ⟨z, hz, hq⟩
  · exact h.lo.1
  · exact h.lo.2.1
  · exact h.lo.2.2.1
  · rcases h.op.2 with ⟨hv, -⟩ | ⟨g, cap, cur, hv, hb, -⟩
    · rw [hv] at hq; simp [oB, Value.ownBlock] at hq
    · rw [hv] at hq; simp [oB, Value.ownBlock] at hq; subst hq; exact hb
  · obtain ⟨i, hi, rfl⟩ := List.mem_iff_getElem.1 hz
    have := h.lo.2.2.2 i (by rw [← h.fn]; exact hi)
    simpa [DX.bk, List.getD_eq_getElem?_getD, hi] using this
  · obtain ⟨i, hi, rfl⟩ := List.mem_iff_getElem.1 hz
    have h2 := (h.fi i (by rw [← h.fn]; exact hi)).2
    have e : x.sv i = x.bl[i].2 := by simp [DX.sv, List.getD_eq_getElem?_getD, hi]
    rw [e] at h2
    rcases h2.2 with hv | ⟨g, cap, cur, hv, hb, -⟩
    · rw [hv.1] at hq; simp [oB, Value.ownBlock] at hq
    · rw [hv] at hq; simp [oB, Value.ownBlock] at hq; subst hq; exact hb

/-! ### large -/
def bigA (p : AtV) : Bool := decide (1000 < p.1.b.length) || (decide (1000 < p.1.name.length + p.1.to.length) || decide (1000 < p.1.ts.length))
def largeA (m : List AtV) : Bool := decide (40 < m.length) || m.any bigA
end Go.Proofs.Ytkaafllbmeppnaa
