/- The statements of layer 9: LifeCounts, LifeEnds, LifeTokens. -/
import Derived.Test.YtahhafcbnkidnaaLifeH
import Derived.Test.YtahhafcbnkidnaaLifeG
import Derived.IntWalk
set_option linter.unusedSimpArgs false
set_option linter.unusedVariables false
namespace Go.Proofs.Ytahhafcbnkidnaa
open Go.RowKit Go.Tum

theorem flatMap_same {α β : Type} {f g : α → List β} : ∀ {l : List α}, (∀ x ∈ l, f x = g x) → l.flatMap f = l.flatMap g
  | [], _ => rfl
  | x :: r, h => by rw [List.flatMap_cons, List.flatMap_cons, h x (by simp), flatMap_same fun y hy => h y (List.mem_cons_of_mem _ hy)]

def cntI (most : Int) (x : L) : Prop := 0 ≤ x.c ∧ x.c ≤ most ∧ (x.s = 1 ∨ x.s = 2 → x.c < most)
theorem cnt_step (most : Int) (hm : 1 ≤ most) (hm2 : I64 most) (x : L) (a : Ac) (h : cntI most x) :
    cntP x (doL x a most).1 a.k (doL x a most).2 most ∧ ((doL x a most).2 = 0 → cntI most (doL x a most).1) := by
  obtain ⟨s, c, d, t⟩ := x
  obtain ⟨k, tok, now, n⟩ := a
  obtain ⟨h1, h2, h3⟩ := h
  obtain ⟨_, hm3⟩ := hm2
  simp only [] at h1 h2 h3
  have hwr : c < most → wrap64 (c + 1) = c + 1 := fun hc => IntWalk.wrap64_in _ (by omega)
  simp only [cntP, cntI, doL, leaseL, ackL, nackL, extendL, passL, deadL, resetL, endL, waitL, overP]
  repeat' split
  all_goals (try simp_all)
  all_goals (try omega)
theorem end_step (most : Int) (x : L) (a : Ac) : endP x (doL x a most).1 a.k a.now (doL x a most).2 := by
  obtain ⟨s, c, d, t⟩ := x
  obtain ⟨k, tok, now, n⟩ := a
  simp only [endP, doL, leaseL, ackL, nackL, extendL, passL, deadL, resetL, endL, waitL, overP]
  repeat' split
  all_goals (try simp_all)
  all_goals (try omega)
theorem tok_step (most : Int) (x : L) (a : Ac) : tokP x (doL x a most).1 a.k a.tok (doL x a most).2 := by
  obtain ⟨s, c, d, t⟩ := x
  obtain ⟨k, tok, now, n⟩ := a
  simp only [tokP, doL, leaseL, ackL, nackL, extendL, passL, deadL, resetL, endL, waitL, overP]
  intro h1 h2
  repeat' split
  all_goals (try simp_all)
  all_goals (try omega)

set_option maxRecDepth 100000 in
set_option maxHeartbeats 2000000 in
theorem counts_law (v : Value) (l : List Ac) (most : Int) (hl : ∀ a ∈ l, U64 a.now ∧ U64 a.n) (hm : I64 most) (w : World) (hv : RowsOf w 4 v acells l) :
    Calls Try.prog 4 #[v, .int .i64 most] w fun e w' => e = .returned (.bool true) ∧ Ext w w' := by
  obtain ⟨ao, cap, hve, hc1, hc2, _, _⟩ := hv.open
  by_cases hlen : 300 < l.length
  · have hd : decide (300 < (l.length : Int)) = true := by simpa using (by omega : 300 < (l.length : Int))
    subst hve
    clear hlen hv
    go_enter Try.func4, Try.ntmps4
    go_wp2_with fail
    refine (awake_any _).mono ?_
    rintro e w1 ⟨rfl, hw1⟩
    have hE1 : Ext w w1 := (Ext.alloc _ _).trans hw1
    clear hw1
    go_wp2
    go_ret
    exact ⟨rfl, hE1⟩
  have hd : decide (300 < (l.length : Int)) = false := by simpa using (by omega : (l.length : Int) ≤ 300)
  by_cases hmost : most < 1
  · have hd2 : decide (most < 1) = true := by simpa using hmost
    subst hve
    clear hmost hlen hv
    go_enter Try.func4, Try.ntmps4
    go_wp2_with fail
    refine (awake_any _).mono ?_
    rintro e w1 ⟨rfl, hw1⟩
    have hE1 : Ext w w1 := (Ext.alloc _ _).trans hw1
    have hb : w1.cell? ⟨w.heap.size, 0, none⟩ = some (.int .i64 most) := hw1.cell (by rw [cell_of_row _ _ _ _ _ _ (heap_alloc_new w (.cells #[.int .i64 most] 3))]; rfl)
    clear hw1
    go_wp2
    go_ret
    exact ⟨rfl, hE1⟩
  have hd2 : decide (most < 1) = false := by simpa using hmost
  have HLIVED := fun (w1 : World) (hw1 : Ext w w1) (hb : w1.cell? ⟨w.heap.size, 0, none⟩ = some (.int .i64 most)) => lived_any 14 enter_cnt #[.pointer (some ⟨w.heap.size, 0, none⟩)] w1 (cntI most) l most hl ⟨Int.le_refl _, (by show (0 : Int) ≤ most; omega), fun _ => (by show (0 : Int) < most; omega)⟩
    (fun x a h => (cnt_step most (by omega) hm x a h).2)
    (fun x a w2 hi hw2 => cnt_any x _ a.k a.tok a.now a.n _ most w.heap.size w2 (hw2.cell hb) (cnt_step most (by omega) hm x a hi).1) v w1 (Ext.refl _) (hv.ext hw1) (by omega)
  have HH := hid HLIVED
  subst hve
  clear hmost hlen hv HLIVED
  go_enter Try.func4, Try.ntmps4
  go_wp2_with fail
  refine (awake_any _).mono ?_
  rintro e w1 ⟨rfl, hw1⟩
  have hE1 : Ext w w1 := (Ext.alloc _ _).trans hw1
  have hb : w1.cell? ⟨w.heap.size, 0, none⟩ = some (.int .i64 most) := hw1.cell (by rw [cell_of_row _ _ _ _ _ _ (heap_alloc_new w (.cells #[.int .i64 most] 3))]; rfl)
  clear hw1
  go_wp2_with fail
  refine (HH.out w1 hE1 hb).mono ?_
  rintro e w2 ⟨rfl, hw2⟩
  go_wp2
  go_ret
  exact ⟨rfl, hE1.trans hw2⟩

set_option maxRecDepth 100000 in
set_option maxHeartbeats 2000000 in
theorem ends_law (v : Value) (l : List Ac) (most : Int) (hl : ∀ a ∈ l, U64 a.now ∧ U64 a.n) (hm : I64 most) (w : World) (hv : RowsOf w 4 v acells l) :
    Calls Try.prog 5 #[v, .int .i64 most] w fun e w' => e = .returned (.bool true) ∧ Ext w w' := by
  obtain ⟨ao, cap, hve, hc1, hc2, _, _⟩ := hv.open
  by_cases hlen : 300 < l.length
  · have hd : decide (300 < (l.length : Int)) = true := by simpa using (by omega : 300 < (l.length : Int))
    subst hve
    clear hlen hv
    go_enter Try.func5, Try.ntmps5
    go_wp2_with fail
    refine (awake_any _).mono ?_
    rintro e w1 ⟨rfl, hw1⟩
    have hE1 : Ext w w1 := hw1
    clear hw1
    go_wp2
    go_ret
    exact ⟨rfl, hE1⟩
  have hd : decide (300 < (l.length : Int)) = false := by simpa using (by omega : (l.length : Int) ≤ 300)
  by_cases hmost : most < 1
  · have hd2 : decide (most < 1) = true := by simpa using hmost
    subst hve
    clear hmost hlen hv
    go_enter Try.func5, Try.ntmps5
    go_wp2_with fail
    refine (awake_any _).mono ?_
    rintro e w1 ⟨rfl, hw1⟩
    have hE1 : Ext w w1 := hw1
    have hb := True.intro
    clear hw1
    go_wp2
    go_ret
    exact ⟨rfl, hE1⟩
  have hd2 : decide (most < 1) = false := by simpa using hmost
  have HLIVED := fun (w1 : World) (hw1 : Ext w w1) => lived_any 15 enter_end #[] w1 (fun _ => True) l most hl trivial
    (fun _ _ _ _ => trivial)
    (fun x a w2 _ _ => end_see x _ a.k a.tok a.now a.n _ most w2 (end_step most x a)) v w1 (Ext.refl _) (hv.ext hw1) (by omega)
  have HH := hid HLIVED
  subst hve
  clear hmost hlen hv HLIVED
  go_enter Try.func5, Try.ntmps5
  go_wp2_with fail
  refine (awake_any _).mono ?_
  rintro e w1 ⟨rfl, hw1⟩
  have hE1 : Ext w w1 := hw1
  have hb := True.intro
  clear hw1
  go_wp2_with fail
  refine (HH.out w1 hE1).mono ?_
  rintro e w2 ⟨rfl, hw2⟩
  go_wp2
  go_ret
  exact ⟨rfl, hE1.trans hw2⟩

set_option maxRecDepth 100000 in
set_option maxHeartbeats 2000000 in
theorem tokens_law (v : Value) (l : List Ac) (most : Int) (hl : ∀ a ∈ l, U64 a.now ∧ U64 a.n) (hm : I64 most) (w : World) (hv : RowsOf w 4 v acells l) :
    Calls Try.prog 6 #[v, .int .i64 most] w fun e w' => e = .returned (.bool true) ∧ Ext w w' := by
  obtain ⟨ao, cap, hve, hc1, hc2, _, _⟩ := hv.open
  by_cases hlen : 300 < l.length
  · have hd : decide (300 < (l.length : Int)) = true := by simpa using (by omega : 300 < (l.length : Int))
    subst hve
    clear hlen hv
    go_enter Try.func6, Try.ntmps6
    go_wp2_with fail
    refine (awake_any _).mono ?_
    rintro e w1 ⟨rfl, hw1⟩
    have hE1 : Ext w w1 := hw1
    clear hw1
    go_wp2
    go_ret
    exact ⟨rfl, hE1⟩
  have hd : decide (300 < (l.length : Int)) = false := by simpa using (by omega : (l.length : Int) ≤ 300)
  by_cases hmost : most < 1
  · have hd2 : decide (most < 1) = true := by simpa using hmost
    subst hve
    clear hmost hlen hv
    go_enter Try.func6, Try.ntmps6
    go_wp2_with fail
    refine (awake_any _).mono ?_
    rintro e w1 ⟨rfl, hw1⟩
    have hE1 : Ext w w1 := hw1
    have hb := True.intro
    clear hw1
    go_wp2
    go_ret
    exact ⟨rfl, hE1⟩
  have hd2 : decide (most < 1) = false := by simpa using hmost
  have HLIVED := fun (w1 : World) (hw1 : Ext w w1) => lived_any 16 enter_tok #[] w1 (fun _ => True) l most hl trivial
    (fun _ _ _ _ => trivial)
    (fun x a w2 _ _ => tok_any x _ a.k a.tok a.now a.n _ most w2 (tok_step most x a)) v w1 (Ext.refl _) (hv.ext hw1) (by omega)
  have HH := hid HLIVED
  subst hve
  clear hmost hlen hv HLIVED
  go_enter Try.func6, Try.ntmps6
  go_wp2_with fail
  refine (awake_any _).mono ?_
  rintro e w1 ⟨rfl, hw1⟩
  have hE1 : Ext w w1 := hw1
  have hb := True.intro
  clear hw1
  go_wp2_with fail
  refine (HH.out w1 hE1).mono ?_
  rintro e w2 ⟨rfl, hw2⟩
  go_wp2
  go_ret
  exact ⟨rfl, hE1.trans hw2⟩

/-- Rows of four numbers as acts. -/
theorem acts_of {w : World} {v : Value} {l : List (List Int)} (h : RowsOf w 4 v (fun z => ([IntKind.i64, .u64, .u64, .u64].zip z).map fun y => Value.int y.1 y.2) l)
    (hw : ∀ z ∈ l, z.length = 4 ∧ ∀ y ∈ [IntKind.i64, .u64, .u64, .u64].zip z, (Lit.int y.1 y.2).wf = true) :
    ∃ m : List Ac, RowsOf w 4 v acells m ∧ ∀ a ∈ m, U64 a.now ∧ U64 a.n := by
  refine ⟨l.map fun z => ⟨z.getD 0 0, z.getD 1 0, z.getD 2 0, z.getD 3 0⟩, ⟨fun x _ => rfl, ?_⟩, ?_⟩
  · have e : (l.map fun z => (⟨z.getD 0 0, z.getD 1 0, z.getD 2 0, z.getD 3 0⟩ : Ac)).flatMap acells = l.flatMap (fun z => ([IntKind.i64, .u64, .u64, .u64].zip z).map fun y => Value.int y.1 y.2) := by
      rw [List.flatMap_map]
      refine flatMap_same fun z hz => ?_
      match z, (hw z hz).1 with
      | [a, b, c, d], _ => rfl
    rw [e, List.length_map]
    exact h.2
  · intro a ha
    obtain ⟨z, hz, rfl⟩ := List.mem_map.1 ha
    obtain ⟨h1, h2⟩ := hw z hz
    match z, h1 with
    | [a, b, c, d], _ =>
      have := h2 (.u64, c) (by simp)
      have := h2 (.u64, d) (by simp)
      simp [Lit.wf, IntKind.min, IntKind.max, IntKind.signed, IntKind.bits] at *
      exact ⟨⟨by omega, by omega⟩, ⟨by omega, by omega⟩⟩
theorem i64_of {n : Int} (h : (Lit.int .i64 n).wf = true) : I64 n := by
  simp [Lit.wf, IntKind.min, IntKind.max, IntKind.signed, IntKind.bits] at h
  exact ⟨by omega, by omega⟩
end Go.Proofs.Ytahhafcbnkidnaa
