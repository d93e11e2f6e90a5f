/- A range over a lane: the statement 'for id := range l.each', each a method value that reads alone. -/
import Derived.Test.YtlnghgalmhmegaaLanB
import Derived.RangeFuncNested
import Derived.RangeFuncCalls
import Derived.RangeFuncLeaves
import Derived.RangeFuncBox
import Derived.Shelf.Abstract
import Derived.WalkKit
import Derived.OwnWalkIn
import Derived.TacticsInMore
import Derived.LoopNIn
import Derived.LoopIn
import Derived.Maps.AppendAt
set_option linter.unusedSimpArgs false
set_option linter.unusedVariables false
namespace Go.Proofs.Ytlnghgalmhmegaa
open Go Go.RowKit Go.Tum Go.ChangeMaps Go.Shelf
attribute [local go_sem] Oper.semAt_some

/-- What a round leaves: the two objects of the loop lie as they lay. -/
def RPost (D l : Nat) (I Ix : List UInt64 → World → Prop) (xs : List UInt64) (W : World) : Exit → Act → World → Prop
  | .normal, _, W' => (W'.heap[l]? = W.heap[l]? ∧ W'.heap[D]? = W.heap[D]?) ∧ I xs W'
  | .ret, _, W' => (W'.heap[l]? = W.heap[l]? ∧ W'.heap[D]? = W.heap[D]?) ∧ Ix xs W'
  | _, _, _ => False

abbrev FW : Fence := Fence.wide
/-- What 'each' owes: it hands all ids over, one after another, as long as the rounds say so. -/
def EachGives (p : Nat) (xs : List UInt64) : Prop :=
  ∀ (lp : Nat) (J Jx : List UInt64 → World → Prop) (W : World),
    (∀ pre x W1, J pre W1 → pre ++ [x] <+: xs → YieldAt FW 7 Try.prog lp #[vU x] W1 fun e W' => (e = .returned (.bool true) ∧ J (pre ++ [x]) W') ∨ (e = .returned (.bool false) ∧ Jx (pre ++ [x]) W')) →
    J [] W → CallsIn FW 8 Try.prog 21 #[pv p, .func (.yield lp) #[] #[]] W fun e W' => (∃ v, e = .returned v) ∧ (J xs W' ∨ ∃ pre, pre <+: xs ∧ Jx pre W')

theorem range_each {g : Operand} {ps : Array Tmp} {assign body : Code} {Q : Exit → Act → World → Prop} {a : Act} {w : World} {p : Nat} {xs : List UInt64}
    (hg : a.eval g = .func (.func 21) #[pv p] #[]) (hps : ps.size = 1) (I Ix : List UInt64 → World → Prop)
    (hgives : ∀ J : List UInt64 → World → Prop, (∀ pre W, J pre W → I pre W) → ∀ (lp : Nat) (Jx : List UInt64 → World → Prop) (W : World),
      (∀ pre x W1, J pre W1 → pre ++ [x] <+: xs → YieldAt FW 7 Try.prog lp #[vU x] W1 fun e W' => (e = .returned (.bool true) ∧ J (pre ++ [x]) W') ∨ (e = .returned (.bool false) ∧ Jx (pre ++ [x]) W')) →
      J [] W → CallsIn FW 8 Try.prog 21 #[pv p, .func (.yield lp) #[] #[]] W fun e W' => (∃ v, e = .returned v) ∧ (J xs W' ∨ ∃ pre, pre <+: xs ∧ Jx pre W'))
    (hI : ∀ pre W l o, l = w.heap.size + 1 → I pre W → I pre (W.putObj l o)) (hIx : ∀ pre W l o, l = w.heap.size + 1 → Ix pre W → Ix pre (W.putObj l o)) (h0 : ∀ o1 o2, I [] ((w.alloc o1).alloc o2)) (a₁ : UInt64 → Act)
    (hassign : ∀ (l : Nat) (x : UInt64) (W : World) (K : Act → World → Prop), K (a₁ x) W →
      assign.wpIn (FW.inRound l) 7 Try.prog (Exit.then K (fun _ _ _ => False)) { tmps := (ps.zip #[vU x]).foldl (fun t (p, v) => t.setIfInBounds p v) a.tmps, defers := [] } W)
    (hbody : ∀ (l : Nat) (pre : List UInt64) (x : UInt64) (W : World), l = w.heap.size + 1 → l < W.heap.size → I pre W → pre ++ [x] <+: xs → body.wpIn (FW.inRound l) 7 Try.prog (RPost w.heap.size l I Ix (pre ++ [x]) W) (a₁ x) W)
    (hdone : ∀ W, I xs W → W.heap[w.heap.size]? = some (.deferred (some [])) → Q .normal { a with defers := { target := .collected w.heap.size, args := #[] } :: a.defers } W)
    (hstop : ∀ pre W, pre <+: xs → Ix pre W → W.heap[w.heap.size]? = some (.deferred (some [])) → Code.ret.wpIn FW 9 Try.prog Q { a with defers := { target := .collected w.heap.size, args := #[] } :: a.defers } W) :
    (Code.rangeFunc g ps assign body).wpIn FW 9 Try.prog Q a w := by
  refine wpIn_rangeFunc fun fn hfn => ?_
  obtain ⟨rec, hrec⟩ : ∃ rec : LoopState → Option Code → Loop, rec = fun st pe => { state := st, pending := pe, fn := fn, tmps := a.tmps, params := ps, assign := assign, body := body, defers := w.heap.size } := ⟨_, rfl⟩
  have hW1l : ((w.alloc (.deferred (some []))).alloc (.loop (rec .ready none))).heap[w.heap.size + 1]? = some (.loop (rec .ready none)) := by
    have := heap_alloc_new (w.alloc (.deferred (some []))) (.loop (rec .ready none))
    rwa [World.size_alloc] at this
  have hW1D : ((w.alloc (.deferred (some []))).alloc (.loop (rec .ready none))).heap[w.heap.size]? = some (.deferred (some [])) :=
    (Ext.alloc _ _).obj (heap_alloc_new w _)
  have hI1 := h0 (.deferred (some [])) (.loop (rec .ready none))
  refine ⟨w.heap.size + 1, [{ target := .collected w.heap.size, args := #[] }], (w.alloc (.deferred (some []))).alloc (.loop (rec .ready none)), { target := .fn (.func 21) #[], args := #[pv p, .func (.yield (w.heap.size + 1)) #[] #[]] }, (w.alloc (.deferred (some []))).alloc (.loop (rec .ready none)), 21,
    #[pv p, .func (.yield (w.heap.size + 1)) #[] #[]], (w.alloc (.deferred (some []))).alloc (.loop (rec .ready none)), ?_, ?_, ?_, ?_, ?_, ?_⟩
  · rw [hrec]; exact run_enterLoop_outer _ _ _ _ _
  · simp only [resolve, hg]
    simp [go_sem]
  · intro f' hf'; trivial
  · have eg := enters_of (P := Try.prog) Try.func21 (by kernel_rfl) rfl
    simp [invoke, go_sem, eg]
  · intro h; cases h
  · generalize hWg : (w.alloc (.deferred (some []))).alloc (.loop (rec .ready none)) = W1 at *
    refine (hgives (fun pre W => I pre W ∧ W.heap[w.heap.size + 1]? = some (.loop (rec .ready none)) ∧ W.heap[w.heap.size]? = some (.deferred (some []))) (fun _ _ h => h.1) (w.heap.size + 1)
      (fun pre W => Ix pre W ∧ W.heap[w.heap.size + 1]? = some (.loop (rec .done (some .ret))) ∧ W.heap[w.heap.size]? = some (.deferred (some []))) W1 ?_ ⟨hI1, hW1l, hW1D⟩).mono ?_
    · rintro pre x W ⟨hi, hl, hk⟩ hpre
      have hlt : w.heap.size + 1 < W.heap.size := (Array.getElem?_eq_some_iff.1 hl).1
      have hy := run_yield (P := Try.prog) (args := #[vU x]) hl (by rw [hrec]; simp [hps])
      rw [hrec] at hy
      refine ⟨fn, _, assign, body, hy, roundIn_of_wpIn hfn (hassign _ x W _ ⟨_, run_beginRound hl (by rw [hrec]), ?_⟩)⟩
      have hl2 : (W.putObj (w.heap.size + 1) (.loop { rec .ready none with state := .busy })).heap[w.heap.size + 1]? = some (.loop { rec .ready none with state := .busy }) := World.putObj_heap_same hlt
      have hk2 : (W.putObj (w.heap.size + 1) (.loop { rec .ready none with state := .busy })).heap[w.heap.size]? = some (.deferred (some [])) := (World.putObj_heap_other (by omega)).trans hk
      refine wpIn_mono (hbody _ pre x _ rfl (by rw [World.putObj_size]; exact hlt) (hI _ _ _ _ (by omega) hi) hpre) ?_
      rintro e a3 W3 hp
      cases e with
      | normal =>
        obtain ⟨⟨e1, e2⟩, hi3⟩ := hp
        have hl3 := e1.trans hl2
        have hr := run_endRound (P := Try.prog) none hl3
        rw [hrec] at hr
        have hlt3 := (Array.getElem?_eq_some_iff.1 hl3).1
        refine ⟨_, _, hr, .inl ⟨rfl, hI _ _ _ _ (by omega) hi3, ?_, (World.putObj_heap_other (by omega)).trans (e2.trans hk2)⟩⟩
        rw [World.putObj_heap_same hlt3, hrec]
        rfl
      | ret =>
        obtain ⟨⟨e1, e2⟩, hi3⟩ := hp
        have hl3 := e1.trans hl2
        have hr := run_endRound (P := Try.prog) (some .ret) hl3
        rw [hrec] at hr
        have hlt3 := (Array.getElem?_eq_some_iff.1 hl3).1
        refine ⟨_, _, hr, .inr ⟨rfl, hIx _ _ _ _ (by omega) hi3, ?_, (World.putObj_heap_other (by omega)).trans (e2.trans hk2)⟩⟩
        rw [World.putObj_heap_same hlt3, hrec]
        rfl
      | exit id => exact hp.elim
      | goto t => exact hp.elim
      | panic ch => exact hp.elim
      | outgrown => exact hp.elim
    · rintro e W2 ⟨⟨v, rfl⟩, (⟨hi, hl, hk⟩ | ⟨pre, hpre, hi, hl, hk⟩)⟩
      · refine ⟨none, _, ?_, hdone _ (hI _ _ (w.heap.size + 1) (.loop { rec .ready none with state := .exhausted }) (by omega) hi) ((World.putObj_heap_other (by omega)).trans hk)⟩
        have := run_endLoop (P := Try.prog) hl (by rw [hrec]; simp)
        rw [hrec] at this ⊢
        exact this
      · refine ⟨some .ret, _, ?_, hstop pre _ hpre (hIx _ _ (w.heap.size + 1) (.loop { rec .done (some .ret) with state := .exhausted }) (by omega) hi) ((World.putObj_heap_other (by omega)).trans hk)⟩
        have := run_endLoop (P := Try.prog) hl (by rw [hrec]; simp)
        rw [hrec] at this ⊢
        exact this

def pA : Option Nat → Option Addr
  | none => none
  | some b => some ⟨b, 0, none⟩
theorem ptr_eq (o : Option Nat) : ptr o = .pointer (pA o) := by cases o <;> rfl
/-- How many are left, told by a pointer into the chain. -/
def left (l : List (UInt64 × Nat)) : Value → Nat
  | .pointer (some a) => (l.dropWhile fun q => q.2 != a.block).length
  | _ => 0
theorem left_eq {pre r : List (UInt64 × Nat)} {x : UInt64} {b : Nat} (h : ((pre ++ (x, b) :: r).map (·.2)).Nodup) : left (pre ++ (x, b) :: r) (pv b) = r.length + 1 := by
  have : (pre ++ (x, b) :: r).dropWhile (fun q => q.2 != b) = (x, b) :: r := by
    rw [List.dropWhile_append_of_pos]
    · simp [List.dropWhile]
    · intro q hq
      have h1 : q.2 ≠ b := by
        rw [List.map_append, List.nodup_append] at h
        exact h.2.2 q.2 (List.mem_map.2 ⟨q, hq, rfl⟩) b (by simp)
      simpa using h1
  unfold left
  simp only [this, List.length_cons]

set_option maxRecDepth 100000 in
set_option maxHeartbeats 1000000 in
theorem each_gives {p m : Nat} {l : List (UInt64 × Nat)} {I : List UInt64 → World → Prop} (hL : ∀ pre W, I pre W → Lane W p m l) (J : List UInt64 → World → Prop) (hJ : ∀ pre W, J pre W → I pre W) (lp : Nat) (Jx : List UInt64 → World → Prop) (W : World)
    (hY : ∀ pre x W1, J pre W1 → pre ++ [x] <+: ids l → YieldAt FW 7 Try.prog lp #[vU x] W1 fun e W' => (e = .returned (.bool true) ∧ J (pre ++ [x]) W') ∨ (e = .returned (.bool false) ∧ Jx (pre ++ [x]) W'))
    (h0 : J [] W) : CallsIn FW 8 Try.prog 21 #[pv p, .func (.yield lp) #[] #[]] W fun e W' => (∃ v, e = .returned v) ∧ (J (ids l) W' ∨ ∃ pre, pre <+: ids l ∧ Jx pre W') := by
  refine callsIn_of_wp Try.func21 rfl trivial ?_ rfl
  simp only [Try.ntmps21, List.size_toArray, List.length_cons, List.length_nil, Nat.reduceAdd, Nat.reduceSub, Array.replicate_succ, Array.replicate_zero, List.push_toArray, List.append_toArray, List.nil_append, List.cons_append]
  obtain ⟨c0, c1, c2, -⟩ := lk3 (hL _ _ (hJ _ _ h0)).hd
  rw [ptr_eq] at c1
  obtain ⟨v0, hv0⟩ : ∃ v, pA (hdB l) = v := ⟨_, rfl⟩
  rw [hv0] at c1
  clear c2
  gi_wp2
  clear c0 c1
  gi_loopw [4] (fun q wr => ∃ (pre rest : List (UInt64 × Nat)), q = .pointer (pA (hdB rest)) ∧ l = pre ++ rest ∧ J (ids pre) wr) (fun q wr => left l q)
  case atStart => exact ⟨[], l, by rw [hv0], rfl, h0⟩
  case round =>
    obtain ⟨pre, rest, rfl, hl, hj⟩ := hrel
    cases rest with
    | nil =>
      rw [show pA (hdB []) = none from rfl]
      gi_wp2
      go_end0
      refine ⟨⟨_, rfl⟩, .inl ?_⟩
      rw [List.append_nil] at hl
      rw [hl]; exact hj
    | cons xb r =>
      obtain ⟨x, b⟩ := xb
      have hln := hL _ _ (hJ _ _ hj)
      have hlc := hln.ch
      have hnb := hln.nb
      rw [hl] at hlc hnb
      obtain ⟨k0, k1, k2, -⟩ := lk3 (Ch.append.1 hlc).2.1
      have hpx : ids pre ++ [x] <+: ids l := by
        rw [hl]
        exact ⟨ids r, by simp⟩
      obtain ⟨fn, tmps, assign, body, hy, hR⟩ := hY (ids pre) x wr hj hpx
      rw [show pA (hdB ((x, b) :: r)) = some ⟨b, 0, none⟩ from rfl]
      clear k1 k2
      gi_wp2
      refine hR.mono ?_
      rintro e W3 (⟨rfl, hJ3⟩ | ⟨rfl, hJx3⟩)
      · have hln3 := hL _ _ (hJ _ _ hJ3)
        have hlc3 := hln3.ch
        rw [hl] at hlc3
        obtain ⟨m0, m1, m2, -⟩ := lk3 (Ch.append.1 hlc3).2.1
        rw [Option.or_none, ptr_eq] at m2
        obtain ⟨v1, hv1⟩ : ∃ v, pA (hdB r) = v := ⟨_, rfl⟩
        rw [hv1] at m2
        clear m1
        have HM := left_eq hnb
        gi_wp2
        go_roundw
        case rel => exact ⟨pre ++ [(x, b)], r, by rw [hv1], by rw [hl]; simp, by simpa using hJ3⟩
        case measure =>
          rw [← hv1, hl]
          rw [HM]
          cases r with
          | nil => simp [left, hdB, pA]
          | cons yc r2 =>
            obtain ⟨y, c⟩ := yc
            have := left_eq (pre := pre ++ [(x, b)]) (x := y) (b := c) (r := r2) (by simpa using hnb)
            simp only [List.append_assoc, List.cons_append, List.nil_append] at this
            simp only [hdB, pA]
            rw [this]
            simp
      · gi_wp2
        refine bodyPost_ret (results_none rfl _ _ _) rfl ?_
        exact ⟨⟨_, rfl⟩, .inr ⟨ids pre ++ [x], hpx, hJx3⟩⟩
end Go.Proofs.Ytlnghgalmhmegaa
