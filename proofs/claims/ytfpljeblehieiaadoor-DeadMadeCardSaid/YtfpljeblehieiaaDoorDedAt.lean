/- The dead's laws: acts as arguments, large, do. -/
import Derived.Test.YtfpljeblehieiaaDoorDedP
import Derived.Test.YtfpljeblehieiaaDoorOpenV
import Derived.Deep.QuietTactic
import Derived.BigQuiet
import Derived.Handy
set_option linter.unusedSimpArgs false
set_option linter.unusedVariables false
namespace Go.Proofs.YtfpljeblehieiaaDoor
open Go Go.RowKit Go.Tum Go.ChangeMaps Go.Sort Go.Tum.Rn Go.WideShapes Go.ChangeShapes
open Go.ParB (upd Lof)
open Go.ParE (putS slotsR slots Closed)

/-- An act of the laws. -/
structure AtD where
  dn : Int
  id : UInt64
  name : Nm
  n : Int
abbrev acellsD (q : AtD) : List Value := [.int .i64 q.dn, vU q.id, vN q.name, .int .i64 q.n]
abbrev actVD (q : AtD) : Value := .agg #[.int .i64 q.dn, vU q.id, vN q.name, .int .i64 q.n]
def i64D (z : Int) : Prop := -9223372036854775808 ≤ z ∧ z ≤ 9223372036854775807
theorem i64D_of {n : Int} (h : (Lit.int .i64 n).wf = true) : i64D n := by
  simpa [i64D, Lit.wf, IntKind.min, IntKind.max, IntKind.signed, IntKind.bits] using h
def ActsD (w : World) (v : Value) (m : List AtD) : Prop := RowsOf w 4 v acellsD m ∧ ∀ q ∈ m, i64D q.n ∧ i64D q.dn ∧ q.name.length ≤ maxLen
theorem ActsD.ext {w w' : World} {v : Value} {m : List AtD} (h : ActsD w v m) (k : Ext w w') : ActsD w' v m := ⟨h.1.ext k, h.2⟩
section
variable {H : Type} {enc : TypeId × Value → H} {w : World} {base : Nat} {held : Bool}
theorem nmD_of (s : ByteArray) : s = str s.data.toList := by
  apply ByteArray.ext
  simp [str]
theorem nmD_len {s : ByteArray} (h : s.size ≤ maxLen) : s.data.toList.length ≤ maxLen := by
  have : s.data.toList.length = s.size := Array.length_toList
  rw [this]; exact h
set_option maxRecDepth 100000 in
theorem open_actsD {v : Value} {d : DataW H} {p : List MemPlace} {r : Reach} {b0 : Nat} (hval : Value.okWide Tryd.prog w r b0 22 v) (h : DataW.Trod enc Tryd.prog w base (fun _ => true) held 22 v d p) :
    ∃ m : List AtD, ActsD w v m := by
  obtain ⟨a, len, cap, rfl⟩ := okWide_slice Tryd.underlying22 hval
  obtain ⟨fuel, hf⟩ := h
  replace hf : DataW.trod enc Tryd.prog w base (fun _ => true) held fuel 22 [.slice a len cap] = some (d, p) := hf
  rcases open_slice_fields Tryd.underlying22 Tryd.underlying34 (by kernel_rfl) (by kernel_rfl) hf with ⟨h0, _⟩ | ⟨a, len, cap, m, D, Pl, hcs, hb, hl, hm, hmm, hx, hi⟩
  · simp at h0
    obtain ⟨rfl, rfl, rfl⟩ := h0
    exact ⟨[], RowsOf.nil _ _ _, fun p h => absurd h (by simp)⟩
  · simp at hcs
    obtain ⟨rfl, rfl, rfl⟩ := hcs
    simp at hmm
    subst hmm
    have hrow : ∀ i, i < len → ∃ q : AtD, (i64D q.n ∧ i64D q.dn ∧ q.name.length ≤ maxLen) ∧ ∀ j u, (acellsD q)[j]? = some u → w.cell? (a.add (i * 4 + j)) = some u := by
      intro i hil
      obtain ⟨ys, n, -, -, -, hfj⟩ := hi i (by omega)
      obtain ⟨u0, y0, k0, -, t0⟩ := hfj 0 _ rfl
      obtain ⟨u1, y1, k1, -, t1⟩ := hfj 1 _ rfl
      obtain ⟨u2, y2, k2, -, t2⟩ := hfj 2 _ rfl
      obtain ⟨u3, y3, k3, -, t3⟩ := hfj 3 _ rfl
      obtain ⟨z0, e, -, hw0⟩ := DataW.trod_int Tryd.underlying3 t0
      simp at e; subst e
      obtain ⟨z1, e, -, hw1⟩ := DataW.trod_int Tryd.underlying29 t1
      simp at e; subst e
      obtain ⟨x1, rfl⟩ := u64_of hw1
      obtain ⟨s2, e, -, hs2⟩ := DataW.trod_string Tryd.underlying9 t2
      simp at e; subst e
      obtain ⟨z3, e, -, hw3⟩ := DataW.trod_int Tryd.underlying3 t3
      simp at e; subst e
      refine ⟨⟨z0, x1, s2.data.toList, z3⟩, ⟨i64D_of hw3, i64D_of hw0, nmD_len hs2⟩, fun j u hu => ?_⟩
      match j, hu with
      | 0, hu => simp at hu; subst hu; exact k0
      | 1, hu => simp at hu; subst hu; exact k1
      | 2, hu => simp at hu; subst hu; rw [nmD_of s2] at k2; exact k2
      | 3, hu => simp at hu; subst hu; exact k3
    obtain ⟨q, hq, hQ⟩ := list_of len hrow
    refine ⟨q, RowsOf.mk' hq hl hm (by decide) (fun _ _ => rfl) (fun i h j u hu => (hQ i h).2 j u hu), ?_⟩
    intro p hp
    obtain ⟨i, hil, rfl⟩ := List.mem_iff_getElem.1 hp
    exact (hQ i hil).1
end
/-! ### large -/
def SmallD (m : List AtD) : Prop := m.length ≤ 200 ∧ ∀ q ∈ m, q.name.length ≤ 100
def LargeD (m : List AtD) (w : World) (e : Ending) (w' : World) : Prop := (∃ r, e = .returned (.bool r) ∧ (r = false → SmallD m)) ∧ Ext w w'
theorem LargeD.yes {m : List AtD} {w w' : World} (h : Ext w w') : LargeD m w (.returned (.bool true)) w' := ⟨⟨true, rfl, fun h => by cases h⟩, h⟩
abbrev actOD (q : AtD) : Obj := .cells #[.int .i64 q.dn, vU q.id, vN q.name, .int .i64 q.n] 34 (0, 0)
set_option maxHeartbeats 1000000 in
theorem dlarge_any (v : Value) (m : List AtD) (w : World) (h : ActsD w v m) :
    Calls Tryd.prog 8 #[v] w fun e w' => LargeD m w e w' := by
  obtain ⟨hr, hok⟩ := h
  obtain ⟨ao, cap, rfl, hle, hm, hnn, hcell⟩ := hr.open
  have HC := hid hcell
  have HNN := hid hnn
  clear hr hcell hnn hok
  by_cases h1 : 200 < m.length
  · have hd : decide ((200 : Int) < m.length) = true := by simp; omega
    clear h1
    go_enter Tryd.func8, Tryd.ntmps8
    go_wp2
    go_returns
    exact LargeD.yes (Ext.refl _)
  have hd : decide ((200 : Int) < m.length) = false := by simp; omega
  go_enter Tryd.func8, Tryd.ntmps8
  go_wp2
  clear hd
  go_loopw [10] (fun i wr => ∃ k : Nat, k ≤ m.length ∧ i = .int .i64 k ∧ Hid (∀ j (h : j < m.length), j < k → m[j].name.length ≤ 100) ∧ Hid (Ext w wr)) (fun i _ => m.length - (intOf i).toNat)
  case atStart => exact ⟨0, by omega, rfl, hid (fun j h h2 => absurd h2 (by omega)), hid (Ext.refl _)⟩
  case round =>
    obtain ⟨k, hk, rfl, HS, HE⟩ := hrel
    by_cases hlt : k < m.length
    · obtain ⟨a0, rfl⟩ := HNN.out (by omega)
      have c0 := cell_first (HE.out.cell (HC.out a0 rfl k hlt 0 _ rfl))
      have c1 := cell_next (HE.out.cell (HC.out a0 rfl k hlt 1 _ rfl)) (by decide)
      have c2 := cell_next (HE.out.cell (HC.out a0 rfl k hlt 2 _ rfl)) (by decide)
      have c3 := cell_next (HE.out.cell (HC.out a0 rfl k hlt 3 _ rfl)) (by decide)
      obtain ⟨q, hq⟩ : ∃ q, m[k] = q := ⟨_, rfl⟩
      have HQ := hid hq
      rw [hq] at c0 c1 c2 c3
      clear hq
      obtain ⟨dn, id, name, n⟩ := q
      dsimp only at c0 c1 c2 c3
      have hi1 : decide ((k : Int) < m.length) = true := by simp; omega
      have HE2 := hid (HE.out.trans (Ext.alloc wr (actOD ⟨dn, id, name, n⟩)))
      by_cases hb : 100 < name.length
      · have hd : decide ((100 : Int) < ((str name).size : Int)) = true := by rw [str_size]; simp; omega
        go_wp2
        go_returns
        exact LargeD.yes HE2.out
      · have hd : decide ((100 : Int) < ((str name).size : Int)) = false := by rw [str_size]; simp; omega
        have HB := hid hb
        clear hb
        go_wp2
        go_roundw
        case rel =>
          refine ⟨k + 1, by omega, by go_num, hid (fun j h h2 => ?_), HE2⟩
          rcases Nat.lt_or_eq_of_le (Nat.le_of_lt_succ h2) with h3 | h3
          · exact HS.out j h h3
          · subst h3; rw [HQ.out]; have := HB.out; show name.length ≤ 100; omega
        case measure =>
          show m.length - ((k : Int) + 1).toNat < m.length - ((k : Int)).toNat
          omega
    · have hkf : decide ((k : Int) < m.length) = false := by simp; omega
      go_wp2
      go_returns
      refine ⟨⟨false, rfl, fun _ => ⟨by omega, fun q hq => ?_⟩⟩, HE.out⟩
      obtain ⟨j, hj, rfl⟩ := List.mem_iff_getElem.1 hq
      exact HS.out j hj (by omega)
/-! ### do -/
def actD (s : PD) (a : AtD) : (List UInt64 × Int × Bool) × PD :=
  if a.dn = 0 then (([], 0, (addD s a.id).1), (addD s a.id).2) else if a.dn = 1 then (([], 0, (dropD s a.id).1), (dropD s a.id).2) else
  if a.dn = 2 then (((nextD s a.name a.n).1, (nextD s a.name a.n).2.1, false), (nextD s a.name a.n).2.2) else (([], 0, (s.rows.lookup a.id).isSome), s)
theorem addD_last (s : PD) (x : UInt64) (hl : s.last.toNat + 1 < 18446744073709551616) : (addD s x).2.last.toNat ≤ s.last.toNat + 1 := by
  unfold addD
  split
  · exact Nat.le_succ _
  · show (s.last + 1).toNat ≤ _
    rw [UInt64.toNat_add]; simp; omega
theorem addD_rows (s : PD) (x : UInt64) : (addD s x).2.rows.length ≤ s.rows.length + 1 := by
  unfold addD
  split <;> simp
theorem nextD_last (s : PD) (x : Nm) (n : Int) : (nextD s x n).2.2.last = s.last ∧ (nextD s x n).2.2.rows = s.rows := by
  unfold nextD
  repeat' split
  all_goals exact ⟨rfl, rfl⟩
/-- A state that k acts may have left. -/
structure Few (k : Nat) (s : PD) : Prop where
  wd : WD s
  last : s.last.toNat ≤ k
  rows : s.rows.length ≤ k
theorem Few.act {k : Nat} {s : PD} (h : Few k s) (a : AtD) (hk : k ≤ 90000) : Few (k + 1) (actD s a).2 := by
  have h1 := h.last
  have h2 := h.rows
  unfold actD
  repeat' split
  · exact ⟨h.wd.add _ (by omega), Nat.le_trans (addD_last s a.id (by omega)) (by omega), Nat.le_trans (addD_rows s a.id) (by omega)⟩
  · exact ⟨h.wd.drop _, by show s.last.toNat ≤ _; omega, Nat.le_trans (noK_len _ _) (by omega)⟩
  · have := nextD_last s a.name a.n
    exact ⟨h.wd.next _ _, by rw [this.1]; omega, by rw [this.2]; omega⟩
  · exact ⟨h.wd, by show s.last.toNat ≤ _; omega, by show s.rows.length ≤ _; omega⟩
def DoD (w : World) (p mp ms : Nat) (r : (List UInt64 × Int × Bool) × PD) (e : Ending) (w' : World) : Prop :=
  (∃ v, e = .returned (.tuple #[v, .int .i64 r.1.2.1, .bool r.1.2.2]) ∧ w'.ownsRow w.heap.size 29 1 v r.1.1.length (r.1.1.map vU)) ∧ DD w' p mp ms r.2 ∧ Fr [p, mp, ms] w w'
set_option maxHeartbeats 1000000 in
theorem ddo_any {w : World} {p mp ms k : Nat} {s : PD} (q : AtD) (h : DD w p mp ms s) (hf : Few k s) (hk : k ≤ 90000) (ht : TB w) (hn : q.name.length ≤ 100) (hq : i64D q.n) :
    Calls Tryd.prog 10 #[pv p, actVD q] w fun e w' => DoD w p mp ms (actD s q) e w' := by
  obtain ⟨R, hR⟩ : ∃ R, actD s q = R := ⟨_, rfl⟩
  rw [hR]
  obtain ⟨dn, id, name, n⟩ := q
  dsimp only at hn hq
  have E1 : Ext w (w.alloc (actOD ⟨dn, id, name, n⟩)) := Ext.alloc _ _
  have HE := hid E1
  have HD := hid (h.ext E1)
  have HF := hid hf
  have HK := hid hk
  have HT := hid (TBx ht E1)
  have HN := hid hn
  have HQ := hid hq
  have HR := hid hR
  clear E1 h hf hk ht hn hq hR
  by_cases h0 : dn = 0
  · subst h0
    have HR2 : Hid (R = (([], 0, (addD s id).1), (addD s id).2)) := hid HR.out.symm
    go_enter Tryd.func10, Tryd.ntmps10
    go_wp2_with fail
    refine (dadd_any id HD.out (by have := HF.out.rows; have := HK.out; omega)).mono ?_
    rintro e w2 ⟨rfl, hd, hf⟩
    have HD2 := hid hd
    have HF2 := hid hf
    clear hd hf
    go_wp2
    go_returns
    rw [HR2.out]
    exact ⟨⟨_, rfl, World.ownsRow_nil _ _ _ _⟩, HD2.out, (Ext.fr HE.out).trans HF2.out⟩
  by_cases h1 : dn = 1
  · subst h1
    have HR2 : Hid (R = (([], 0, (dropD s id).1), (dropD s id).2)) := hid HR.out.symm
    go_enter Tryd.func10, Tryd.ntmps10
    go_wp2_with fail
    refine (ddrop_any id HD.out).mono ?_
    rintro e w2 ⟨rfl, hd, hf⟩
    have HD2 := hid hd
    have HF2 := hid hf
    clear hd hf
    go_wp2
    go_returns
    rw [HR2.out]
    exact ⟨⟨_, rfl, World.ownsRow_nil _ _ _ _⟩, HD2.out, (Ext.fr HE.out).trans HF2.out⟩
  by_cases h2 : dn = 2
  · subst h2
    have HR2 : Hid (R = (((nextD s name n).1, (nextD s name n).2.1, false), (nextD s name n).2.2)) := hid HR.out.symm
    go_enter Tryd.func10, Tryd.ntmps10
    go_wp2_with fail
    refine (dnext_any name n HQ.out.1 HQ.out.2 HD.out HF.out.wd HT.out (by have := HN.out; omega)).mono ?_
    rintro e w2 ⟨⟨u, rfl, ho⟩, hd, hf⟩
    obtain ⟨uo, uc, rfl⟩ := row_shape ho
    have HO2 := hid ho
    have HD2 := hid hd
    have HF2 := hid hf
    clear hd hf ho
    go_wp2
    go_returns
    rw [HR2.out]
    exact ⟨⟨_, rfl, owns_mono HO2.out HE.out.size⟩, HD2.out, (Ext.fr HE.out).trans HF2.out⟩
  · have HR2 : Hid (R = (([], 0, (s.rows.lookup id).isSome), s)) := hid (by rw [← HR.out]; unfold actD; dsimp only; rw [if_neg h0, if_neg h1, if_neg h2])
    have d0 : (dn == 0) = false := by simpa using h0
    have d1 : (dn == 1) = false := by simpa using h1
    have d2 : (dn == 2) = false := by simpa using h2
    go_enter Tryd.func10, Tryd.ntmps10
    go_wp2_with fail
    refine (dhas_any id HD.out).mono ?_
    rintro e w2 ⟨rfl, rfl⟩
    go_wp2
    go_returns
    rw [HR2.out]
    exact ⟨⟨_, rfl, World.ownsRow_nil _ _ _ _⟩, HD.out, Ext.fr HE.out⟩
end Go.Proofs.YtfpljeblehieiaaDoor
