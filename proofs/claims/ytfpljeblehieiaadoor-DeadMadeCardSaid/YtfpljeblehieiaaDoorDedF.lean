/- The dead: byName; cursors sorted by SortFunc (12 or fewer). -/
import Derived.Test.YtfpljeblehieiaaDoorDedE
import Derived.Test.YtfpljeblehieiaaDoorLabR
import Derived.Sort.LotA
set_option linter.unusedSimpArgs false
set_option linter.unusedVariables false
namespace Go.Proofs.YtfpljeblehieiaaDoor
open Go Go.RowKit Go.Tum Go.ChangeMaps Go.Sort Go.Tum.Rn
open Go.ParB (upd Lof)
open Go.ParE (putS slotsR slots Closed)

abbrev Cur := Nm × UInt64
abbrev encC (x : Cur) : List Value := [vN x.1, vU x.2]
def ltC (x y : Cur) : Bool := lessR (runes x.1) (runes y.1)
def cfC (x y : Cur) : Int := if ltC x y then -1 else if ltC y x then 1 else 0
theorem cfC_neg (x y : Cur) : decide (cfC x y < 0) = ltC x y := by
  unfold cfC
  cases h : ltC x y
  · cases h2 : ltC y x <;> simp
  · simp
theorem TBx {w w' : World} (h : TB w) (k : Ext w w') : TB w' := Utf8Tabs_below h k
theorem byName_any (a b : Cur) (w : World) (ha : a.1.length ≤ 1048576) (hb : b.1.length ≤ 1048576) (ht : TB w) : Calls Tryd.prog 37 #[.agg #[vN a.1, vU a.2], .agg #[vN b.1, vU b.2]] w fun e w' => e = .returned (.int .i64 (cfC a b)) ∧ Ext w w' := by
  obtain ⟨a1, a2⟩ := a
  obtain ⟨b1, b2⟩ := b
  dsimp only at ha hb ⊢
  have HB0 := (Ext.alloc _ _).obj (heap_alloc_new w (.cells #[vN a1, vU a2] 51 (0, 0))) (w' := (w.alloc (.cells #[vN a1, vU a2] 51 (0, 0))).alloc (.cells #[vN b1, vU b2] 51 (0, 0)))
  have HB1 := heap_alloc_new (w.alloc (.cells #[vN a1, vU a2] 51 (0, 0))) (.cells #[vN b1, vU b2] 51 (0, 0))
  have HG : Hid (Ext w ((w.alloc (.cells #[vN a1, vU a2] 51 (0, 0))).alloc (.cells #[vN b1, vU b2] 51 (0, 0)))) := hid ((Ext.alloc _ _).trans (Ext.alloc _ _))
  rw [World.size_alloc] at HB1
  have HT := hid (TBx ht HG.out)
  have HA := hid ha
  have HBL := hid hb
  obtain ⟨c, hc⟩ : ∃ c, cfC (a1, a2) (b1, b2) = c := ⟨_, rfl⟩
  have HC := hid hc
  rw [hc]
  obtain ⟨p0, h0⟩ : ∃ p, w.heap.size = p := ⟨_, rfl⟩
  clear ht ha hb hc
  go_enter Tryd.func37, Tryd.ntmps37
  go_wp2_with fail
  rw [h0] at HB0 HB1
  try rw [h0]
  generalize (w.alloc (.cells #[vN a1, vU a2] 51 (0, 0))).alloc (.cells #[vN b1, vU b2] 51 (0, 0)) = W1 at *
  have H0 := hid HB0
  have H1 := hid HB1
  clear HB0 HB1
  obtain ⟨q0, -, -⟩ := lk2 H0.out
  obtain ⟨q1, -, -⟩ := lk2 H1.out
  go_wp2_with fail
  clear q0 q1
  refine (less_any a1 b1 W1 HA.out HBL.out HT.out).mono ?_
  rintro e w2 ⟨rfl, hE⟩
  have HE2 := hid (HG.out.trans hE)
  have HT2 := hid (TBx HT.out hE)
  have hH0 := hid (hE.obj H0.out)
  have hH1 := hid (hE.obj H1.out)
  clear hE
  cases hl : lessR (runes a1) (runes b1)
  case true =>
    have HR : Hid (c = -1) := hid (by rw [← HC.out]; unfold cfC ltC; simp [hl])
    clear hl
    go_wp2
    go_ret
    exact ⟨by rw [HR.out]; rfl, HE2.out⟩
  case false =>
    have HL := hid hl
    clear hl
    obtain ⟨q0, -, -⟩ := lk2 hH0.out
    obtain ⟨q1, -, -⟩ := lk2 hH1.out
    go_wp2_with fail
    clear q0 q1
    refine (less_any b1 a1 w2 HBL.out HA.out HT2.out).mono ?_
    rintro e w3 ⟨rfl, hE⟩
    have HE3 := hid (HE2.out.trans hE)
    clear hE
    cases hl : lessR (runes b1) (runes a1)
    case true =>
      have HR : Hid (c = 1) := hid (by rw [← HC.out]; unfold cfC ltC; simp [hl, HL.out])
      clear hl
      go_wp2
      go_ret
      exact ⟨by rw [HR.out]; rfl, HE3.out⟩
    case false =>
      have HR : Hid (c = 0) := hid (by rw [← HC.out]; unfold cfC ltC; simp [hl, HL.out])
      clear hl
      go_wp2
      go_ret
      exact ⟨by rw [HR.out]; rfl, HE3.out⟩
theorem enByName (args : Array Value) (w : World) : Sem.run Tryd.prog (callFunc 37 args) w = .ok (.enter 37 args) w := enter_of Tryd.func37 (by kernel_rfl) (by kernel_rfl) args w
theorem val_callv {P : Program} {ρ : Operand → Value} {w : World} {K : Value → World → Prop} {f : FuncId} {callee : Operand} {cb : Array Value} (hf : ∀ args w, Sem.run P (callFunc f args) w = .ok (.enter f args) w)
    {dst : Option Tmp} {xs : Array Operand} {ats : Array TypeId} {ty : TypeId} {pos : String} {after : Array Edge} {guard : Option (Nat × Bool)}
    (e0 : ρ callee = .func (.func f) #[] cb) (hc : Calls P f (xs.map ρ ++ cb) w fun e w'' => ∃ v, e = .returned v ∧ K v w'') :
    Par.vUpon P K ((execOp ρ { dst, op := .call { callee := .value callee, args := xs, argTypes := ats }, type := ty, pos, after, guard }).run P w) := by
  have h : (execOp ρ { dst, op := .call { callee := .value callee, args := xs, argTypes := ats }, type := ty, pos, after, guard }).run P w = .ok (.enter f (xs.map ρ ++ cb)) w := by
    have hr := hf (xs.map ρ ++ cb) w
    simp [execOp, resolve, e0, invoke, Deferred.ofValue, hr]
  rw [h]
  exact hc
theorem addr0 (g k : Nat) : (⟨g, 0, none⟩ : Addr).add k = ⟨g, k, none⟩ := by unfold Addr.add; split <;> simp_all
/-- The cells of element j, as a walk spells them. -/
structure EC (w : World) (a : Addr) (j : Nat) (z : Cur) : Prop where
  c0 : w.cell? (a.add (j * 2)) = some (vN z.1)
  c1 : w.cell? ⟨(a.add (j * 2)).block, (a.add (j * 2)).off + 1, none⟩ = some (vU z.2)
  f0 : w.frozen? (a.add (j * 2)) = false
  f1 : w.frozen? ⟨(a.add (j * 2)).block, (a.add (j * 2)).off + 1, none⟩ = false
abbrev RowC (w : World) (B g n cap : Nat) (l : List Cur) : Prop := w.ownsRow B 51 2 (.slice (some ⟨g, 0, none⟩) n cap) n (l.flatMap encC)
theorem RowC.ec {w : World} {B g n cap : Nat} {l : List Cur} (h : RowC w B g n cap l) (hn : l.length = n) {j : Nat} (hj : j < n) : EC w ⟨g, 0, none⟩ j (l[j]'(by omega)) := by
  obtain ⟨g0, g1⟩ := flat2_get (A := fun z : Cur => vN z.1) (Bf := fun z => vU z.2) l j (by omega)
  refine ⟨?_, ?_, ?_, ?_⟩
  · rw [addr0, World.ownsRow.cellAt h _ (by omega), g0]
  · rw [addr0]
    show w.cell? ⟨g, j * 2 + 1, none⟩ = _
    rw [World.ownsRow.cellAt h _ (by omega), g1]
  · rw [addr0]; exact World.ownsRow.frozenAt h _
  · rw [addr0]; exact World.ownsRow.frozenAt h _
theorem flat2_set2 {α : Type} {A Bf : α → Value} (l : List α) (i : Nat) (h : i < l.length) (z : α) : ((l.flatMap fun z => [A z, Bf z]).set (i * 2) (A z)).set (i * 2 + 1) (Bf z) = (l.set i z).flatMap fun z => [A z, Bf z] := by
  induction l generalizing i with
  | nil => simp at h
  | cons y r ih =>
    cases i with
    | zero => simp
    | succ i =>
      have := ih i (by simpa using h)
      rw [show (i + 1) * 2 = i * 2 + 1 + 1 by omega]
      simpa using this
theorem RowC.set {w : World} {B g n cap : Nat} {l : List Cur} (h : RowC w B g n cap l) (hn : l.length = n) {j : Nat} (hj : j < n) (z : Cur) :
    RowC ((w.setCell ⟨g, j * 2, none⟩ (vN z.1)).setCell ⟨g, j * 2 + 1, none⟩ (vU z.2)) B g n cap (l.set j z) ∧ Fr [g] w ((w.setCell ⟨g, j * 2, none⟩ (vN z.1)).setCell ⟨g, j * 2 + 1, none⟩ (vU z.2)) := by
  have h1 := (World.ownsRow.stored h (j * 2) (vN z.1)).1
  have h2 := (World.ownsRow.stored h1 (j * 2 + 1) (vU z.2)).1
  rw [flat2_set2 (A := fun z : Cur => vN z.1) (Bf := fun z => vU z.2) l j (by omega) z] at h2
  exact ⟨h2, (fr_setCell _ _ _ (by simp)).trans (fr_setCell _ _ _ (by simp))⟩
end Go.Proofs.YtfpljeblehieiaaDoor
