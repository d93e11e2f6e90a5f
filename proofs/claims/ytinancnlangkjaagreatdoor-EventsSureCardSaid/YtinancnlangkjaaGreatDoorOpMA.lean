/- Package op: Right.
Acts of a queue: which may be, their records, and back (mathematics). -/
import Derived.Test.YtinancnlangkjaaGreatDoorRecM
import Derived.WalkKit
import Derived.Test.YtinancnlangkjaaGreatDoorRecGB
import Derived.Test.YtinancnlangkjaaGreatDoorRecGA
import Derived.Laws.Rows
import Derived.Laws.Tables
import Derived.Deep.MidRow
set_option linter.unusedVariables false
namespace Go.Tum.Opm
open Go.Tum Go.Tum.Vint Go.Tum.Crc

/-- An act. -/
structure Oq where
  dd : Int
  lane : Int
  id : UInt64
  n : UInt64
  name : List UInt8
  seg : UInt64
  at' : UInt64
  size : Int
deriving DecidableEq
abbrev o0 : Oq := ⟨0, 0, 0, 0, [], 0, 0, 0⟩
def hasId (k : Int) : Bool := decide (k = 4 ∨ k = 5 ∨ k = 6 ∨ k = 8 ∨ k = 9)
def hasN (k : Int) : Bool := decide (k = 2 ∨ k = 3 ∨ k = 5 ∨ k = 6 ∨ k = 7 ∨ k = 10)
/-- May an act be? -/
def opRight (o : Oq) : Bool :=
  decide (1 ≤ o.dd ∧ o.dd ≤ 10) && ((hasId o.dd || decide (o.id = 0)) && ((hasN o.dd || decide (o.n = 0)) &&
  ((if o.dd = 10 then decide (o.name.length ≤ 64) else decide (o.name = [])) &&
  (if o.dd = 2 then decide (0 ≤ o.size ∧ o.size ≤ 64 ∧ 0 ≤ o.lane ∧ o.lane ≤ 7)
   else decide (o.seg = 0 ∧ o.at' = 0 ∧ o.size = 0) && (if o.dd = 3 then decide (-1 ≤ o.lane ∧ o.lane ≤ 7) else decide (o.lane = 0))))))
def uI (x : Int) : UInt64 := UInt64.ofNat x.toNat
def iU (x : UInt64) : Int := IntKind.i64.wrap (x.toNat : Int)
/-- Its record. -/
def opNums (o : Oq) : List UInt64 :=
  if o.dd = 2 then [uI o.lane, o.n, o.seg, o.at', uI o.size] else if o.dd = 3 then [uI (o.lane + 1), o.n]
  else if o.dd = 5 ∨ o.dd = 6 then [o.id, o.n] else if hasId o.dd then [o.id] else if o.dd = 7 ∨ o.dd = 10 then [o.n] else []
def opRec (o : Oq) : Rc := ⟨o.dd, opNums o, o.name⟩
/-- The act that a record's numbers tell. -/
def cand (r : Rc) : Oq :=
  ⟨r.kind, if r.kind = 2 then iU (r.n.getD 0 0) else if r.kind = 3 then IntKind.i64.wrap (iU (r.n.getD 0 0) - 1) else 0,
   if hasId r.kind then r.n.getD 0 0 else 0,
   if r.kind = 2 ∨ r.kind = 3 ∨ r.kind = 5 ∨ r.kind = 6 then r.n.getD 1 0 else if r.kind = 7 ∨ r.kind = 10 then r.n.getD 0 0 else 0,
   r.text, if r.kind = 2 then r.n.getD 2 0 else 0, if r.kind = 2 then r.n.getD 3 0 else 0, if r.kind = 2 then iU (r.n.getD 4 0) else 0⟩
def opOf (r : Rc) : Oq × Int := if rightB r && opRight (cand r) then (cand r, 0) else (o0, 2)

theorem uI_nat {x : Int} (h0 : 0 ≤ x) (h1 : x ≤ 1000) : ((uI x).toNat : Int) = x := by
  unfold uI
  rw [UInt64.toNat_ofNat', Nat.mod_eq_of_lt (by omega)]
  omega
theorem iU_small {x : UInt64} (h : x.toNat < 9223372036854775808) : iU x = (x.toNat : Int) := by
  unfold iU IntKind.wrap
  simp [IntKind.bits, IntKind.signed]
  omega
theorem iU_neg {x : UInt64} (h : 9223372036854775808 ≤ x.toNat) : iU x = (x.toNat : Int) - 18446744073709551616 := by
  have := x.toNat_lt
  unfold iU IntKind.wrap
  simp [IntKind.bits, IntKind.signed]
  omega
theorem iU_uI {x : Int} (h0 : 0 ≤ x) (h1 : x ≤ 1000) : iU (uI x) = x := by
  have := uI_nat h0 h1
  rw [iU_small (by omega), this]
theorem uI_iU {x : UInt64} (h0 : 0 ≤ iU x) : uI (iU x) = x := by
  have hx := x.toNat_lt
  rcases Nat.lt_or_ge x.toNat 9223372036854775808 with h | h
  · rw [iU_small h]
    unfold uI
    rw [Int.toNat_natCast, UInt64.ofNat_toNat]
  · rw [iU_neg h] at h0; omega
theorem iU_wrap1 {x : UInt64} (h0 : -1 ≤ IntKind.i64.wrap (iU x - 1)) (h1 : IntKind.i64.wrap (iU x - 1) ≤ 7) : IntKind.i64.wrap (iU x - 1) = iU x - 1 ∧ 0 ≤ iU x := by
  have hx := x.toNat_lt
  rcases Nat.lt_or_ge x.toNat 9223372036854775808 with h | h
  · rw [iU_small h] at *
    unfold IntKind.wrap at *
    simp [IntKind.bits, IntKind.signed] at *
    omega
  · rw [iU_neg h] at *
    unfold IntKind.wrap at *
    simp [IntKind.bits, IntKind.signed] at *
    omega
theorem wrap_small {x : Int} (h0 : -1000 ≤ x) (h1 : x ≤ 1000) : IntKind.i64.wrap x = x := by
  unfold IntKind.wrap
  simp [IntKind.bits, IntKind.signed]
  omega
theorem kinds {k : Int} (h : 1 ≤ k ∧ k ≤ 10) : k = 1 ∨ k = 2 ∨ k = 3 ∨ k = 4 ∨ k = 5 ∨ k = 6 ∨ k = 7 ∨ k = 8 ∨ k = 9 ∨ k = 10 := by omega
theorem opRight_kind {o : Oq} (h : opRight o = true) : 1 ≤ o.dd ∧ o.dd ≤ 10 := by
  unfold opRight at h
  simp only [Bool.and_eq_true, decide_eq_true_eq] at h
  exact h.1
theorem opRight_name {o : Oq} (h : opRight o = true) : o.name.length ≤ 64 := by
  unfold opRight at h
  simp only [Bool.and_eq_true, decide_eq_true_eq] at h
  have := h.2.2.2.1
  split at this
  · simpa using this
  · simp at this; rw [this]; simp
/-- An act that may be has a record that is right, and comes back. -/
theorem rec_back {o : Oq} (h : opRight o = true) : rightB (opRec o) = true ∧ cand (opRec o) = o := by
  obtain ⟨k, lane, id, n, name, seg, at', size⟩ := o
  have hk := opRight_kind h
  unfold opRight at h
  simp only [Bool.and_eq_true, decide_eq_true_eq, Bool.or_eq_true] at h hk
  obtain ⟨-, h1, h2, h3, h4⟩ := h
  rcases kinds hk with rfl | rfl | rfl | rfl | rfl | rfl | rfl | rfl | rfl | rfl <;>
    simp [hasId, hasN] at h1 h2 h3 h4 <;>
    simp [rightB, opRec, opNums, cand, hasId, knownB, many, manyT, textB, *]
  · obtain ⟨a, b, c, d⟩ := h4
    exact ⟨iU_uI c (by omega), iU_uI a (by omega)⟩
  · obtain ⟨a, c, d⟩ := h4
    rw [iU_uI (by omega) (by omega), wrap_small (by omega) (by omega)]; omega
theorem opOf_back {o : Oq} (h : opRight o = true) : opOf (opRec o) = (o, 0) := by
  obtain ⟨h1, h2⟩ := rec_back h
  unfold opOf
  rw [h1, h2, h]; rfl
theorem len_of {n : List UInt64} : (n.length = 0 → n = []) ∧ (n.length = 1 → ∃ a, n = [a]) ∧ (n.length = 2 → ∃ a b, n = [a, b]) ∧ (n.length = 5 → ∃ a b c d e, n = [a, b, c, d, e]) := by
  refine ⟨fun h => List.length_eq_zero_iff.1 h, fun h => ?_, fun h => ?_, fun h => ?_⟩
  · match n, h with
    | [a], _ => exact ⟨a, rfl⟩
  · match n, h with
    | [a, b], _ => exact ⟨a, b, rfl⟩
  · match n, h with
    | [a, b, c, d, e], _ => exact ⟨a, b, c, d, e, rfl⟩
/-- And a record whose act may be is that act's. -/
theorem cand_back {r : Rc} (hr : rightB r = true) (h : opRight (cand r) = true) : opRec (cand r) = r := by
  obtain ⟨k, n, text⟩ := r
  have hk : 1 ≤ k ∧ k ≤ 10 := opRight_kind h
  simp only [rightB, Bool.and_eq_true, decide_eq_true_eq] at hr
  obtain ⟨⟨-, hn⟩, ht⟩ := hr
  unfold opRight at h
  simp only [Bool.and_eq_true, decide_eq_true_eq, Bool.or_eq_true] at h
  obtain ⟨-, -, -, -, h4⟩ := h
  obtain ⟨l0, l1, l2, l5⟩ := @len_of n
  rcases kinds hk with rfl | rfl | rfl | rfl | rfl | rfl | rfl | rfl | rfl | rfl <;> simp [many, manyT] at hn
  · subst hn; simp [opRec, opNums, cand, hasId]
  · obtain ⟨a, b, c, d, e, rfl⟩ := l5 hn
    simp [cand] at h4
    simp [opRec, opNums, cand, hasId, uI_iU h4.1, uI_iU h4.2.2.1]
  · obtain ⟨a, b, rfl⟩ := l2 hn
    simp [cand] at h4
    obtain ⟨w1, w2⟩ := iU_wrap1 h4.1 h4.2
    simp only [opRec, opNums, cand, hasId]
    simp [w1, uI_iU w2]
  · obtain ⟨a, rfl⟩ := l1 hn; simp [opRec, opNums, cand, hasId]
  · obtain ⟨a, b, rfl⟩ := l2 hn; simp [opRec, opNums, cand, hasId]
  · obtain ⟨a, b, rfl⟩ := l2 hn; simp [opRec, opNums, cand, hasId]
  · obtain ⟨a, rfl⟩ := l1 hn; simp [opRec, opNums, cand, hasId]
  · obtain ⟨a, rfl⟩ := l1 hn; simp [opRec, opNums, cand, hasId]
  · obtain ⟨a, rfl⟩ := l1 hn; simp [opRec, opNums, cand, hasId]
  · obtain ⟨a, rfl⟩ := l1 hn; simp [opRec, opNums, cand, hasId]
theorem opOf_ok {r : Rc} (h : (opOf r).2 = 0) : rightB r = true ∧ opRight (opOf r).1 = true ∧ opRec (opOf r).1 = r := by
  unfold opOf at h ⊢
  split at h
  · rename_i hc
    simp only [Bool.and_eq_true] at hc
    rw [if_pos (by simp [hc.1, hc.2])]
    exact ⟨hc.1, hc.2, cand_back hc.1 hc.2⟩
  · cases h
theorem opOf_err {r : Rc} (h : (opOf r).2 ≠ 0) : opOf r = (o0, 2) := by
  unfold opOf at h ⊢
  split at h
  · exact absurd rfl h
  · rename_i hc
    rw [if_neg hc]
end Go.Tum.Opm

set_option linter.unusedSimpArgs false
set_option linter.unusedVariables false
set_option maxRecDepth 100000
namespace Go.Proofs.YtinancnlangkjaaGreatDoor
open Go Go.RowKit Go.Tum Go.Tum.Crc Go.Tum.Vint Go.Tum.Opm

abbrev ocells (o : Oq) : List Value := [.int .i64 o.dd, .int .i64 o.lane, uv o.id, uv o.n, .string (str o.name), uv o.seg, uv o.at', .int .i64 o.size]
abbrev ov (o : Oq) : Value := .agg (ocells o).toArray
theorem blk8 {w : World} {b : Nat} {v0 v1 v2 v3 v4 v5 v6 v7 : Value} {ty : TypeId} (h : w.heap[b]? = some (.cells #[v0, v1, v2, v3, v4, v5, v6, v7] ty (0, 0))) :
    (w.cell? ⟨b, 0, none⟩ = some v0 ∧ w.cell? ⟨b, 1, none⟩ = some v1 ∧ w.cell? ⟨b, 2, none⟩ = some v2 ∧ w.cell? ⟨b, 3, none⟩ = some v3 ∧ w.cell? ⟨b, 4, none⟩ = some v4 ∧ w.cell? ⟨b, 5, none⟩ = some v5 ∧ w.cell? ⟨b, 6, none⟩ = some v6 ∧ w.cell? ⟨b, 7, none⟩ = some v7) ∧ ∀ i, w.frozen? ⟨b, i, none⟩ = false := by
  refine ⟨⟨?_, ?_, ?_, ?_, ?_, ?_, ?_, ?_⟩, fun i => by simp [World.frozen?, h]⟩ <;> (rw [cell_of_row _ _ _ _ _ _ h]; rfl)
theorem opRight_no {o : Oq} (h : ¬ (1 ≤ o.dd ∧ o.dd ≤ 10)) : opRight o = false := by
  unfold opRight
  rw [decide_eq_false h]; rfl
/-- Two acts compared. -/
theorem eql_op (k lane : Int) (id n : UInt64) (name : List UInt8) (seg at' : UInt64) (size : Int) (W : World) :
    (binOp .eql 68 (.agg #[.int .i64 k, .int .i64 lane, uv id, uv n, .string (str name), uv seg, uv at', .int .i64 size]) (.agg #[.int .i64 0, .int .i64 0, .int .u64 0, .int .u64 0, .string ⟨#[]⟩, .int .u64 0, .int .u64 0, .int .i64 0])).run Tryz.prog W = .ok (.bool (decide ((⟨k, lane, id, n, name, seg, at', size⟩ : Oq) = o0))) W := by
  have e1 : ∀ x : UInt64, ((x.toNat : Int) == 0) = decide (x = 0) := fun x => by
    rw [Bool.eq_iff_iff]; simp only [beq_iff_eq, decide_eq_true_eq]
    exact ⟨fun h => UInt64.toNat_inj.1 (by simpa using h), fun h => by rw [h]; rfl⟩
  have e3 : decide ((⟨k, lane, id, n, name, seg, at', size⟩ : Oq) = o0) = (k == 0 && (lane == 0 && (decide (id = 0) && (decide (n = 0) && (decide (name = []) && (decide (seg = 0) && (decide (at' = 0) && size == 0))))))) := by
    rw [Bool.eq_iff_iff]; simp
  rw [e3]
  have e4 : (str name = ⟨#[]⟩) = (name = []) := by
    rw [eq_iff_iff]
    exact ⟨fun h => by have := str_data name; rw [h] at this; exact this.symm, fun h => by rw [h]; rfl⟩
  have e5 : ∀ x : UInt64, x.toNat = 0 ↔ x = 0 := fun x => ⟨fun h => UInt64.toNat_inj.1 (by simpa using h), fun h => by rw [h]; rfl⟩
  have e6 : (if name = [] then true else false) = decide (name = []) := by by_cases h : name = [] <;> simp [h]
  go_simp
  (repeat' split) <;> simp_all
set_option maxHeartbeats 2000000 in
theorem oright_any (o : Oq) (w : World) : Calls Tryz.prog 35 #[ov o] w fun e w' => e = .returned (.bool (opRight o)) ∧ Ext w w' := by
  obtain ⟨R, hR⟩ : ∃ R, opRight o = R := ⟨_, rfl⟩
  have HR := hid hR
  rw [hR]
  obtain ⟨k, lane, id, n, name, seg, at', size⟩ := o
  clear hR
  by_cases hk : 1 ≤ k ∧ k ≤ 10
  · rcases kinds hk with rfl | rfl | rfl | rfl | rfl | rfl | rfl | rfl | rfl | rfl
    · clear hk
      have hd : decide ((⟨0, lane, id, n, name, seg, at', size⟩ : Oq) = o0) = R := by
        rw [← HR.out, Bool.eq_iff_iff]
        simp [opRight, hasId, hasN]
        try first | (intros; omega) | (constructor <;> (intro h; simp_all <;> omega))
      have hq : ∀ W, (binOp .eql 68 (.agg #[.int .i64 0, .int .i64 lane, uv id, uv n, .string (str name), uv seg, uv at', .int .i64 size]) (.agg #[.int .i64 0, .int .i64 0, .int .u64 0, .int .u64 0, .string ⟨#[]⟩, .int .u64 0, .int .u64 0, .int .i64 0])).run Tryz.prog W = .ok (.bool R) W := fun W => by
        have h := eql_op 0 lane id n name seg at' size W
        rw [hd] at h; exact h
      clear hd HR
      go_enter Tryz.func35, Tryz.ntmps35
      go_wp2
      go_returns
      exact ⟨rfl, (Ext.alloc _ _).trans (Ext.alloc _ _)⟩
    · clear hk
      by_cases h0 : lane < 0
      · have d0 : decide (lane < 0) = true := by simpa using h0
        have hf : R = false := by
          rw [← HR.out]
          simp [opRight, hasId, hasN]
          try omega
        subst hf
        clear HR
        clear h0
        go_enter Tryz.func35, Tryz.ntmps35
        go_wp2
        go_returns
        exact ⟨rfl, (Ext.alloc _ _).trans (Ext.alloc _ _)⟩
      have d0 : decide (lane < 0) = false := by simpa using h0
      by_cases h1 : 8 ≤ lane
      · have d1 : decide (8 ≤ lane) = true := by simpa using h1
        have hf : R = false := by
          rw [← HR.out]
          simp [opRight, hasId, hasN]
          try omega
        subst hf
        clear HR
        clear h0 h1
        go_enter Tryz.func35, Tryz.ntmps35
        go_wp2
        go_returns
        exact ⟨rfl, (Ext.alloc _ _).trans (Ext.alloc _ _)⟩
      have d1 : decide (8 ≤ lane) = false := by simpa using h1
      by_cases h2 : size < 0
      · have d2 : decide (size < 0) = true := by simpa using h2
        have hf : R = false := by
          rw [← HR.out]
          simp [opRight, hasId, hasN]
          try omega
        subst hf
        clear HR
        clear h0 h1 h2
        go_enter Tryz.func35, Tryz.ntmps35
        go_wp2
        go_returns
        exact ⟨rfl, (Ext.alloc _ _).trans (Ext.alloc _ _)⟩
      have d2 : decide (size < 0) = false := by simpa using h2
      by_cases h3 : 64 < size
      · have d3 : decide (64 < size) = true := by simpa using h3
        have hf : R = false := by
          rw [← HR.out]
          simp [opRight, hasId, hasN]
          try omega
        subst hf
        clear HR
        clear h0 h1 h2 h3
        go_enter Tryz.func35, Tryz.ntmps35
        go_wp2
        go_returns
        exact ⟨rfl, (Ext.alloc _ _).trans (Ext.alloc _ _)⟩
      have d3 : decide (64 < size) = false := by simpa using h3
      have hd : decide ((⟨0, 0, id, 0, name, 0, 0, 0⟩ : Oq) = o0) = R := by
        rw [← HR.out, Bool.eq_iff_iff]
        simp [opRight, hasId, hasN]
        try first | (intros; omega) | (constructor <;> (intro h; simp_all <;> omega))
      have hq : ∀ W, (binOp .eql 68 (.agg #[.int .i64 0, .int .i64 0, uv id, .int .u64 0, .string (str name), .int .u64 0, .int .u64 0, .int .i64 0]) (.agg #[.int .i64 0, .int .i64 0, .int .u64 0, .int .u64 0, .string ⟨#[]⟩, .int .u64 0, .int .u64 0, .int .i64 0])).run Tryz.prog W = .ok (.bool R) W := fun W => by
        have h := eql_op 0 0 id 0 name 0 0 0 W
        rw [hd] at h; exact h
      clear hd HR
      clear h0 h1 h2 h3
      go_enter Tryz.func35, Tryz.ntmps35
      go_wp2
      go_returns
      exact ⟨rfl, (Ext.alloc _ _).trans (Ext.alloc _ _)⟩
    · clear hk
      by_cases h0 : lane < -1
      · have d0 : decide (lane < -1) = true := by simpa using h0
        have hf : R = false := by
          rw [← HR.out]
          simp [opRight, hasId, hasN]
          try omega
        subst hf
        clear HR
        clear h0
        go_enter Tryz.func35, Tryz.ntmps35
        go_wp2
        go_returns
        exact ⟨rfl, (Ext.alloc _ _).trans (Ext.alloc _ _)⟩
      have d0 : decide (lane < -1) = false := by simpa using h0
      by_cases h1 : 8 ≤ lane
      · have d1 : decide (8 ≤ lane) = true := by simpa using h1
        have hf : R = false := by
          rw [← HR.out]
          simp [opRight, hasId, hasN]
          try omega
        subst hf
        clear HR
        clear h0 h1
        go_enter Tryz.func35, Tryz.ntmps35
        go_wp2
        go_returns
        exact ⟨rfl, (Ext.alloc _ _).trans (Ext.alloc _ _)⟩
      have d1 : decide (8 ≤ lane) = false := by simpa using h1
      have hd : decide ((⟨0, 0, id, 0, name, seg, at', size⟩ : Oq) = o0) = R := by
        rw [← HR.out, Bool.eq_iff_iff]
        simp [opRight, hasId, hasN]
        try first | (intros; omega) | (constructor <;> (intro h; simp_all <;> omega))
      have hq : ∀ W, (binOp .eql 68 (.agg #[.int .i64 0, .int .i64 0, uv id, .int .u64 0, .string (str name), uv seg, uv at', .int .i64 size]) (.agg #[.int .i64 0, .int .i64 0, .int .u64 0, .int .u64 0, .string ⟨#[]⟩, .int .u64 0, .int .u64 0, .int .i64 0])).run Tryz.prog W = .ok (.bool R) W := fun W => by
        have h := eql_op 0 0 id 0 name seg at' size W
        rw [hd] at h; exact h
      clear hd HR
      clear h0 h1
      go_enter Tryz.func35, Tryz.ntmps35
      go_wp2
      go_returns
      exact ⟨rfl, (Ext.alloc _ _).trans (Ext.alloc _ _)⟩
    · clear hk
      have hd : decide ((⟨0, lane, 0, n, name, seg, at', size⟩ : Oq) = o0) = R := by
        rw [← HR.out, Bool.eq_iff_iff]
        simp [opRight, hasId, hasN]
        try first | (intros; omega) | (constructor <;> (intro h; simp_all <;> omega))
      have hq : ∀ W, (binOp .eql 68 (.agg #[.int .i64 0, .int .i64 lane, .int .u64 0, uv n, .string (str name), uv seg, uv at', .int .i64 size]) (.agg #[.int .i64 0, .int .i64 0, .int .u64 0, .int .u64 0, .string ⟨#[]⟩, .int .u64 0, .int .u64 0, .int .i64 0])).run Tryz.prog W = .ok (.bool R) W := fun W => by
        have h := eql_op 0 lane 0 n name seg at' size W
        rw [hd] at h; exact h
      clear hd HR
      go_enter Tryz.func35, Tryz.ntmps35
      go_wp2
      go_returns
      exact ⟨rfl, (Ext.alloc _ _).trans (Ext.alloc _ _)⟩
    · clear hk
      have hd : decide ((⟨0, lane, 0, 0, name, seg, at', size⟩ : Oq) = o0) = R := by
        rw [← HR.out, Bool.eq_iff_iff]
        simp [opRight, hasId, hasN]
        try first | (intros; omega) | (constructor <;> (intro h; simp_all <;> omega))
      have hq : ∀ W, (binOp .eql 68 (.agg #[.int .i64 0, .int .i64 lane, .int .u64 0, .int .u64 0, .string (str name), uv seg, uv at', .int .i64 size]) (.agg #[.int .i64 0, .int .i64 0, .int .u64 0, .int .u64 0, .string ⟨#[]⟩, .int .u64 0, .int .u64 0, .int .i64 0])).run Tryz.prog W = .ok (.bool R) W := fun W => by
        have h := eql_op 0 lane 0 0 name seg at' size W
        rw [hd] at h; exact h
      clear hd HR
      go_enter Tryz.func35, Tryz.ntmps35
      go_wp2
      go_returns
      exact ⟨rfl, (Ext.alloc _ _).trans (Ext.alloc _ _)⟩
    · clear hk
      have hd : decide ((⟨0, lane, 0, 0, name, seg, at', size⟩ : Oq) = o0) = R := by
        rw [← HR.out, Bool.eq_iff_iff]
        simp [opRight, hasId, hasN]
        try first | (intros; omega) | (constructor <;> (intro h; simp_all <;> omega))
      have hq : ∀ W, (binOp .eql 68 (.agg #[.int .i64 0, .int .i64 lane, .int .u64 0, .int .u64 0, .string (str name), uv seg, uv at', .int .i64 size]) (.agg #[.int .i64 0, .int .i64 0, .int .u64 0, .int .u64 0, .string ⟨#[]⟩, .int .u64 0, .int .u64 0, .int .i64 0])).run Tryz.prog W = .ok (.bool R) W := fun W => by
        have h := eql_op 0 lane 0 0 name seg at' size W
        rw [hd] at h; exact h
      clear hd HR
      go_enter Tryz.func35, Tryz.ntmps35
      go_wp2
      go_returns
      exact ⟨rfl, (Ext.alloc _ _).trans (Ext.alloc _ _)⟩
    · clear hk
      have hd : decide ((⟨0, lane, id, 0, name, seg, at', size⟩ : Oq) = o0) = R := by
        rw [← HR.out, Bool.eq_iff_iff]
        simp [opRight, hasId, hasN]
        try first | (intros; omega) | (constructor <;> (intro h; simp_all <;> omega))
      have hq : ∀ W, (binOp .eql 68 (.agg #[.int .i64 0, .int .i64 lane, uv id, .int .u64 0, .string (str name), uv seg, uv at', .int .i64 size]) (.agg #[.int .i64 0, .int .i64 0, .int .u64 0, .int .u64 0, .string ⟨#[]⟩, .int .u64 0, .int .u64 0, .int .i64 0])).run Tryz.prog W = .ok (.bool R) W := fun W => by
        have h := eql_op 0 lane id 0 name seg at' size W
        rw [hd] at h; exact h
      clear hd HR
      go_enter Tryz.func35, Tryz.ntmps35
      go_wp2
      go_returns
      exact ⟨rfl, (Ext.alloc _ _).trans (Ext.alloc _ _)⟩
    · clear hk
      have hd : decide ((⟨0, lane, 0, n, name, seg, at', size⟩ : Oq) = o0) = R := by
        rw [← HR.out, Bool.eq_iff_iff]
        simp [opRight, hasId, hasN]
        try first | (intros; omega) | (constructor <;> (intro h; simp_all <;> omega))
      have hq : ∀ W, (binOp .eql 68 (.agg #[.int .i64 0, .int .i64 lane, .int .u64 0, uv n, .string (str name), uv seg, uv at', .int .i64 size]) (.agg #[.int .i64 0, .int .i64 0, .int .u64 0, .int .u64 0, .string ⟨#[]⟩, .int .u64 0, .int .u64 0, .int .i64 0])).run Tryz.prog W = .ok (.bool R) W := fun W => by
        have h := eql_op 0 lane 0 n name seg at' size W
        rw [hd] at h; exact h
      clear hd HR
      go_enter Tryz.func35, Tryz.ntmps35
      go_wp2
      go_returns
      exact ⟨rfl, (Ext.alloc _ _).trans (Ext.alloc _ _)⟩
    · clear hk
      have hd : decide ((⟨0, lane, 0, n, name, seg, at', size⟩ : Oq) = o0) = R := by
        rw [← HR.out, Bool.eq_iff_iff]
        simp [opRight, hasId, hasN]
        try first | (intros; omega) | (constructor <;> (intro h; simp_all <;> omega))
      have hq : ∀ W, (binOp .eql 68 (.agg #[.int .i64 0, .int .i64 lane, .int .u64 0, uv n, .string (str name), uv seg, uv at', .int .i64 size]) (.agg #[.int .i64 0, .int .i64 0, .int .u64 0, .int .u64 0, .string ⟨#[]⟩, .int .u64 0, .int .u64 0, .int .i64 0])).run Tryz.prog W = .ok (.bool R) W := fun W => by
        have h := eql_op 0 lane 0 n name seg at' size W
        rw [hd] at h; exact h
      clear hd HR
      go_enter Tryz.func35, Tryz.ntmps35
      go_wp2
      go_returns
      exact ⟨rfl, (Ext.alloc _ _).trans (Ext.alloc _ _)⟩
    · clear hk
      by_cases h0 : 64 < name.length
      · have d0 : decide ((64 : Int) < ((str name).size : Int)) = true := by rw [str_size]; simp; omega
        have hf : R = false := by
          rw [← HR.out]
          simp [opRight, hasId, hasN]
          try omega
        subst hf
        clear HR
        clear h0
        go_enter Tryz.func35, Tryz.ntmps35
        go_wp2
        go_returns
        exact ⟨rfl, (Ext.alloc _ _).trans (Ext.alloc _ _)⟩
      have d0 : decide ((64 : Int) < ((str name).size : Int)) = false := by rw [str_size]; simp; omega
      have hd : decide ((⟨0, lane, id, 0, [], seg, at', size⟩ : Oq) = o0) = R := by
        rw [← HR.out, Bool.eq_iff_iff]
        simp [opRight, hasId, hasN]
        try first | (intros; omega) | (constructor <;> (intro h; simp_all <;> omega))
      have hq : ∀ W, (binOp .eql 68 (.agg #[.int .i64 0, .int .i64 lane, uv id, .int .u64 0, .string ⟨#[]⟩, uv seg, uv at', .int .i64 size]) (.agg #[.int .i64 0, .int .i64 0, .int .u64 0, .int .u64 0, .string ⟨#[]⟩, .int .u64 0, .int .u64 0, .int .i64 0])).run Tryz.prog W = .ok (.bool R) W := fun W => by
        have h := eql_op 0 lane id 0 [] seg at' size W
        rw [hd] at h; exact h
      clear hd HR
      clear h0
      go_enter Tryz.func35, Tryz.ntmps35
      go_wp2
      go_returns
      exact ⟨rfl, (Ext.alloc _ _).trans (Ext.alloc _ _)⟩
  · have hf : R = false := by rw [← HR.out]; exact opRight_no hk
    subst hf
    clear HR
    have e1 : (k == 1) = false := by rw [beq_eq_false_iff_ne]; intro e; exact hk (by omega)
    have e2 : (k == 2) = false := by rw [beq_eq_false_iff_ne]; intro e; exact hk (by omega)
    have e3 : (k == 3) = false := by rw [beq_eq_false_iff_ne]; intro e; exact hk (by omega)
    have e4 : (k == 4) = false := by rw [beq_eq_false_iff_ne]; intro e; exact hk (by omega)
    have e5 : (k == 5) = false := by rw [beq_eq_false_iff_ne]; intro e; exact hk (by omega)
    have e6 : (k == 6) = false := by rw [beq_eq_false_iff_ne]; intro e; exact hk (by omega)
    have e7 : (k == 7) = false := by rw [beq_eq_false_iff_ne]; intro e; exact hk (by omega)
    have e8 : (k == 8) = false := by rw [beq_eq_false_iff_ne]; intro e; exact hk (by omega)
    have e9 : (k == 9) = false := by rw [beq_eq_false_iff_ne]; intro e; exact hk (by omega)
    have e10 : (k == 10) = false := by rw [beq_eq_false_iff_ne]; intro e; exact hk (by omega)
    clear hk
    go_enter Tryz.func35, Tryz.ntmps35
    go_wp2
    go_returns
    exact ⟨rfl, (Ext.alloc _ _).trans (Ext.alloc _ _)⟩
end Go.Proofs.YtinancnlangkjaaGreatDoor

