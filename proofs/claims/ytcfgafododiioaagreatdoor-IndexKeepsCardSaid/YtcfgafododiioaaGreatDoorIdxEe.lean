/- Two queues side by side: no block is of both. -/
import Derived.Test.YtcfgafododiioaaGreatDoorC1
import Derived.Test.YtcfgafododiioaaGreatDoorC2
import Derived.Test.YtcfgafododiioaaGreatDoorC3
import Derived.Test.YtcfgafododiioaaGreatDoorC4
import Derived.Test.YtcfgafododiioaaGreatDoorC5
import Derived.Test.YtcfgafododiioaaGreatDoorC6
import Derived.Test.YtcfgafododiioaaGreatDoorC7
import Derived.Test.YtcfgafododiioaaGreatDoorC8
import Derived.Test.YtcfgafododiioaaGreatDoorC9
import Derived.Test.YtcfgafododiioaaGreatDoorC10
import Derived.Test.YtcfgafododiioaaGreatDoorC11
import Derived.Test.YtcfgafododiioaaGreatDoorC12
import Derived.Test.YtcfgafododiioaaGreatDoorC13
import Derived.Test.YtcfgafododiioaaGreatDoorC14
import Derived.Test.YtcfgafododiioaaGreatDoorC15
import Derived.Test.YtcfgafododiioaaGreatDoorC16
import Derived.Test.YtcfgafododiioaaGreatDoorC17
import Derived.Test.YtcfgafododiioaaGreatDoorC18
import Derived.Test.YtcfgafododiioaaGreatDoorC19
import Derived.Test.YtcfgafododiioaaGreatDoorC20
import Derived.Test.YtcfgafododiioaaGreatDoorC21
import Derived.Test.YtcfgafododiioaaGreatDoorC22
import Derived.Test.YtcfgafododiioaaGreatDoorC23
import Derived.Test.YtcfgafododiioaaGreatDoorC24
import Derived.Test.YtcfgafododiioaaGreatDoorC25
import Derived.Test.YtcfgafododiioaaGreatDoorC26
import Derived.Test.YtcfgafododiioaaGreatDoorC27
import Derived.Test.YtcfgafododiioaaGreatDoorC28
import Derived.Test.YtcfgafododiioaaGreatDoorC29
import Derived.Test.YtcfgafododiioaaGreatDoorC30
import Derived.Test.YtcfgafododiioaaGreatDoorC31
import Derived.Test.YtcfgafododiioaaGreatDoorC32
import Derived.Test.YtcfgafododiioaaGreatDoorC33
import Derived.Test.YtcfgafododiioaaGreatDoorC34
import Derived.Test.YtcfgafododiioaaGreatDoorC35
import Derived.Test.YtcfgafododiioaaGreatDoorC36
import Derived.Test.YtcfgafododiioaaGreatDoorC37
import Derived.Test.YtcfgafododiioaaGreatDoorC38
import Derived.Test.YtcfgafododiioaaGreatDoorC39
import Derived.Test.YtcfgafododiioaaGreatDoorC40
import Derived.Test.YtcfgafododiioaaGreatDoorC41
import Derived.Test.YtcfgafododiioaaGreatDoorC42
import Derived.Test.YtcfgafododiioaaGreatDoorC43
import Derived.Test.YtcfgafododiioaaGreatDoorC44
import Derived.Test.YtcfgafododiioaaGreatDoorC45
import Derived.Test.YtcfgafododiioaaGreatDoorIdxEd
set_option linter.unusedSimpArgs false
set_option linter.unusedVariables false
set_option maxRecDepth 100000
namespace Go.Proofs.YtcfgafododiioaaGreatDoor
open Go Go.RowKit Go.Tum Go.ChangeMaps Go.Sort

theorem IX.bs {B : Nat} {w : World} {p : Nat} {x : XP} {q : QR} (h : IX B w p x q) : B ≤ w.heap.size := by
  have := h.blk_lo p (XP.mem_blk.2 ⟨0, by decide, by simp [XP.comp]⟩)
  omega
structure I2 (B : Nat) (w : World) (p : Nat) (x : XP) (q : QR) (p2 : Nat) (y : XP) (r : QR) : Prop where
  a : IX B w p x q
  b : IX B w p2 y r
  ap : ∀ c ∈ x.blk p, c ∉ y.blk p2
section
variable {B : Nat} {w w' : World} {p p2 : Nat} {x y : XP} {q r : QR}
theorem I2.ext (h : I2 B w p x q p2 y r) (k : Ext w w') : I2 B w' p x q p2 y r := ⟨h.a.ext k, h.b.ext k, h.ap⟩
theorem I2.symm (h : I2 B w p x q p2 y r) : I2 B w p2 y r p x q := ⟨h.b, h.a, fun c hc hm => h.ap c hm hc⟩
theorem IX.off_fr (h : IX B w p2 y r) {S : List Nat} (f : Fr S w w') (hs : ∀ c ∈ S, c ∉ y.blk p2) : IX B w' p2 y r :=
  h.fr f fun i hi a ha hm => hs a hm (XP.mem_blk.2 ⟨i, hi, ha⟩)
/-- The one turns, the other stays. -/
theorem I2.left (h : I2 B w p x q p2 y r) {q' : QR} (s : XStp B w p x q' w') : ∃ x', I2 B w' p x' q' p2 y r ∧ Fr (x.blk p) w w' ∧ (∀ a ∈ x'.blk p, a ∈ x.blk p ∨ w.heap.size ≤ a) := by
  obtain ⟨x', i, f, n⟩ := s
  refine ⟨x', ⟨i, h.b.off_fr f h.ap, fun c hc hm => ?_⟩, f, n⟩
  rcases n c hc with k | k
  · exact h.ap c k hm
  · have := (h.b.blk_lo c hm).2
    omega
theorem I2.right (h : I2 B w p x q p2 y r) {r' : QR} (s : XStp B w p2 y r' w') : ∃ y', I2 B w' p x q p2 y' r' ∧ Fr (y.blk p2) w w' ∧ (∀ a ∈ y'.blk p2, a ∈ y.blk p2 ∨ w.heap.size ≤ a) := by
  obtain ⟨y', i, f, n⟩ := h.symm.left s
  exact ⟨y', i.symm, f, n⟩
/-- A second queue, made behind the first. -/
theorem I2.made {w1 : World} (h : IX B w p x q) (k : IX w.heap.size w1 p2 y r) (e : Ext w w1) (hB : B ≤ w.heap.size) : I2 B w1 p x q p2 y r :=
  ⟨h.ext e, k.lower hB, fun c hc hm => by have := (h.blk_lo c hc).2; have := (k.blk_lo c hm).1; omega⟩
end
/-! ### states that are told, by what they are worth -/
def SrX (s : SR) (V : Value) (w : World) : Prop := ∃ b vi vd vc, V = srV s vi vd vc ∧ SrO b w s vi vd vc
def RsX (s : SR) (V : Value) (w : World) : Prop := ∃ b x y z, V = srV s x y z ∧ RSt b w s x y z
theorem SrX.ext {s : SR} {V : Value} {w w' : World} (h : SrX s V w) (k : Ext w w') : SrX s V w' := by
  obtain ⟨b, vi, vd, vc, e, h⟩ := h
  exact ⟨b, vi, vd, vc, e, h.ext k⟩
theorem RsX.ext {s : SR} {V : Value} {w w' : World} (h : RsX s V w) (k : Ext w w') : RsX s V w' := by
  obtain ⟨b, x, y, z, e, h⟩ := h
  exact ⟨b, x, y, z, e, h.ext k⟩
theorem st_val {B n : Nat} {w : World} {p : Nat} {x : XP} {q : QR} (h : IX B w p x q) (hq : XQ n q) (ht : TB w) {s : SR} (hs : stateQ q = s) :
    Calls Tryz.prog 23 #[pv p] w fun e w' => (∃ V, e = .returned V ∧ SrX s V w') ∧ Ext w w' :=
  (st_any h hq ht hs).mono fun e w' ⟨⟨vi, vd, vc, he, ho⟩, hx⟩ => ⟨⟨_, he, _, vi, vd, vc, rfl, ho⟩, hx⟩
theorem lst_val {w : World} {s : SR} {V : Value} (h : SrX s V w) (hs : SmS s) :
    Calls Tryz.prog 22 #[V] w fun e w' => (∃ V', e = .returned V' ∧ RsX s V' w') ∧ Ext w w' := by
  obtain ⟨b, vi, vd, vc, rfl, ho⟩ := h
  exact (lst_any ho hs).mono fun e w' ⟨⟨x, y, z, he, hr⟩, hx⟩ => ⟨⟨_, he, _, x, y, z, rfl, hr⟩, hx⟩
theorem rsame_val {w : World} {s : SR} {U V : Value} (h : RsX s U w) (k : RsX s V w) (hs : SmS s) :
    Calls Tryz.prog 21 #[U, V] w fun e w' => e = .returned (.bool true) ∧ Ext w w' := by
  obtain ⟨b, x, y, z, rfl, hr⟩ := h
  obtain ⟨b2, x2, y2, z2, rfl, hr2⟩ := k
  exact rsame11_eq hr hr2 (by have := hs.it; omega)
/-- A queue that is made of a state that a queue told. -/
def FrmX (B n : Nat) (q : QR) (X : Nat) (w : World) : Prop := ∃ y r, IX B w X y r ∧ MadeR n q.lanes q.pay q.del (stateQ q) r
theorem FrmX.ext {B n : Nat} {q : QR} {X : Nat} {w w' : World} (h : FrmX B n q X w) (k : Ext w w') : FrmX B n q X w' := by
  obtain ⟨y, r, a, b⟩ := h
  exact ⟨y, r, a.ext k, b⟩
theorem FrmX.low {B B' n : Nat} {q : QR} {X : Nat} {w : World} (h : FrmX B n q X w) (k : B' ≤ B) : FrmX B' n q X w := by
  obtain ⟨y, r, a, b⟩ := h
  exact ⟨y, r, a.lower k, b⟩
theorem from_val {n : Nat} {w : World} {q : QR} {V : Value} (hs : XQ n q) (hn : n ≤ 4611686018427387904) (h : SrX (stateQ q) V w) (ht : TB w) :
    Calls Tryz.prog 28 #[ccV q.lanes q.pay q.del, V] w fun e w' => (∃ X, e = .returned (.tuple #[pv X, .int .i64 0]) ∧ FrmX w.heap.size n q X w') ∧ Ext w w' := by
  obtain ⟨b, vi, vd, vc, rfl, h⟩ := h
  obtain ⟨o1, k1, rfl⟩ := row_shape h.it
  obtain ⟨o2, k2, rfl⟩ := row_shape h.dd
  obtain ⟨o3, k3, rfl⟩ := row_shape h.cu
  refine (ifrom_any n q.lanes q.pay q.del (Sl.of_owns h.it) (Sl.of_owns h.dd) (Sl.of_owns h.cu) ht (by have := dead_len hs.wi.wq hs.wi.wd; omega) (state_curs hs.wi.wd) (fun _ => ⟨hs.wi.lo.le, hs.wi.lo.tu, hs.wi.lo.de⟩)).mono ?_
  rintro e w' ⟨hf, hx⟩
  rw [state_ok hs hn, hs.wi.wq.right, if_pos (by rfl)] at hf
  obtain ⟨X, x, r, rfl, hI, hM⟩ := hf
  exact ⟨⟨X, rfl, x, r, hI, hM⟩, hx⟩
end Go.Proofs.YtcfgafododiioaaGreatDoor
