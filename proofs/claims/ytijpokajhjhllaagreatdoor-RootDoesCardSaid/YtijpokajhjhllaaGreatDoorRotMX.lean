/- Layer 16's acts, as arguments.
The root's laws: that it's awake; RootBack.
A root among the arguments, opened.
RootWhole: the mathematics. A root is written behind another one, the power goes, the disk crashes: the one, or the other.
The laws' acts: as arguments; large; the disk's blocks lie high. -/
import Derived.Test.YtijpokajhjhllaaGreatDoorRotMD
import Derived.Test.YtijpokajhjhllaaGreatDoorDskMJ
import Derived.Test.YtijpokajhjhllaaGreatDoorDskMK
import Derived.Test.YtijpokajhjhllaaGreatDoorOpenV
import Derived.Lib.SmallJoins
import Derived.Test.YtijpokajhjhllaaGreatDoorOpen
import Derived.Deep.QuietTactic
import Derived.BigQuiet
import Derived.Handy
set_option linter.unusedSimpArgs false
set_option linter.unusedVariables false
set_option maxRecDepth 100000
namespace Go.Proofs.YtijpokajhjhllaaGreatDoor
open Go Go.RowKit Go.Tum Go.ChangeMaps Go.Tum.Crc

/-- A step of the disk: what lies elsewhere stays, and stays elsewhere. -/
theorem Stp.keep {B : Nat} {w w' : World} {p : Nat} {x : DX} {s : PS} (h : Stp B w p x s w') :
    ∃ x', Dk B w' p x' s ∧ Below B w w' ∧ ∀ b o, w.heap[b]? = some o → b ∉ x.blk p → w'.heap[b]? = some o ∧ b ∉ x'.blk p := by
  obtain ⟨x', d, f, bl, q⟩ := h
  refine ⟨x', d, bl, fun b o hb hn => ⟨fr_at16 f hb hn, fun hm => ?_⟩⟩
  have hl := (Array.getElem?_eq_some_iff.1 hb).1
  rcases q b hm with h1 | h1
  · exact hn h1
  · omega
theorem Dk.new_nin {B : Nat} {w : World} {p : Nat} {x : DX} {s : PS} (h : Dk B w p x s) : w.heap.size ∉ x.blk p := fun hm => by have := h.lt16 _ hm; omega
/-- What is read of a disk. -/
def RdS (s : PS) : Option Rt → Prop
  | none => rdE s nRoot = 5
  | some r => rdE s nRoot = 0 ∧ rdB s nRoot = rtBytes r ∧ rtB r = true
theorem readA_any {B : Nat} {w : World} {p : Nat} {x : DX} {s : PS} (o : Option Rt) (h : Dk B w p x s) (ho : RdS s o) (ht : Tab w) :
    Calls Tryz.prog 10 #[pv p] w fun e w' => e = .returned (.tuple #[rtV (o.getD rt0), .int .i64 (if o.isSome then 0 else 5)]) ∧ Ext w w' := by
  cases o with
  | none => exact readN_any h ho
  | some r => exact readR_any r h ho.1 ho.2.1 ho.2.2 ht
theorem rds_new (n : Nat) : RdS (newP n) none := rfl
theorem rds_A1 (n : Nat) {r : Rt} (h : rtB r = true) : RdS (A1 n (rtBytes r)) (some r) := ⟨rfl, by rfl, h⟩
theorem rds_A2 (n : Nat) (b : List UInt8) {r : Rt} (h : rtB r = true) : RdS (A2 n b (rtBytes r)) (some r) := ⟨rfl, by rfl, h⟩
theorem wr_no {s : PS} {r : Rt} (h : rtB r = false) : wrP s r = (1, s) := by unfold wrP; rw [h]; rfl
theorem wf_seq : ∀ (l : List (PS → Nat × PS)) (s : PS), WF s → (∀ f ∈ l, ∀ s, WF s → WF (f s).2) → WF (seqP l s).2
  | [], _, h, _ => h
  | f :: r, s, h, k => by
    rw [seqP_cons]
    have h1 := k f (by simp) s h
    split
    · exact wf_seq r _ h1 fun g hg => k g (List.mem_cons_of_mem _ hg)
    · exact h1
theorem wf_wr {s : PS} (h : WF s) (r : Rt) : WF (wrP s r).2 := by
  unfold wrP
  split
  · refine wf_seq _ _ h ?_
    unfold wrOps
    intro f hf s hs
    simp only [List.mem_cons, List.not_mem_nil, or_false] at hf
    rcases hf with rfl | rfl | rfl | rfl | rfl | rfl
    · exact hs.delT _
    · exact hs.cre _
    · exact hs.app _ _
    · exact hs.syn _
    · exact hs.ren _ _
    · exact hs.dsy
  · exact h
abbrev rA : Rt := ⟨3, 2, 5, 1, 64⟩
theorem vec_none (w : World) : Vec Go.Tum.iv w (.slice none 0 0) [] := Vec.nil _
set_option maxHeartbeats 4000000 in
theorem awake16_any (w : World) (ht : Tab w) : Calls Tryz.prog 4 #[] w fun e w' => e = .returned (.bool true) ∧ Ext w w' := by
  have HT := hid ht
  have hc := dnew_any w w.heap.size (Nat.le_refl _) 200
  have HC := hid hc
  clear ht hc
  go_enter Tryz.func4, Tryz.ntmps4
  go_wp2_with fail
  refine HC.out.mono ?_
  rintro e w1 ⟨-, h⟩
  obtain ⟨p, x, rfl, d1, x1, q1⟩ := h (by decide) (by decide)
  have D1 := hid d1
  have HE1 := hid x1
  clear h d1 x1 q1 HC
  go_wp2_with fail
  refine (readA_any none D1.out (rds_new _) (HT.out.ext HE1.out)).mono ?_
  rintro e w2 ⟨rfl, hx⟩
  have HE2 := hid (HE1.out.trans hx)
  have D2 := hid (D1.out.ext hx)
  clear hx HE1 D1
  obtain ⟨W3, hW3⟩ : ∃ W, w2.alloc (rtO rt0) = W := ⟨_, rfl⟩
  have HW3 := hid hW3
  obtain ⟨W4, hW4⟩ : ∃ W, W3.alloc (rtO rA) = W := ⟨_, rfl⟩
  have HW4 := hid hW4
  have hE3 : Ext w2 W3 := by rw [← hW3]; exact Ext.alloc _ _
  have hE4 : Ext W3 W4 := by rw [← hW4]; exact Ext.alloc _ _
  have hb := heap_alloc_new W3 (rtO rA)
  rw [hW4] at hb
  have D3 := hid (D2.out.ext hE3)
  have D4 := hid (D3.out.ext hE4)
  have HN4 := hid D3.out.new_nin
  have HE4 := hid (HE2.out.trans (hE3.trans hE4))
  have HB4 := hid hb
  clear hE3 hE4 D2 D3 HE2
  obtain ⟨k0, k1, k2, k3, k4, kf⟩ := blk5 hb
  clear hb
  go_wp2_with fail
  have hW4' : W3.alloc (.cells #[.int .u64 3, .int .i64 2, .int .i64 5, .int .i64 1, .int .i64 64] 35 (0, 0)) = W4 := hW4
  rw [hW4']
  clear hW4 hW4' hW3 HW3 HW4 k0 k1 k2 k3 k4 kf
  have hW : wrP (newP (Int.toNat 200)) rA = (0, A1 (Int.toNat 200) (rtBytes rA)) := wr0 (by decide) (by decide +kernel)
  have hwf : WF (newP (Int.toNat 200)) := wf_new (by decide)
  have hw1 := wf_wr hwf rA
  rw [hW] at hw1
  have HWA := hid hw1
  have hc := write_any rA D4.out HE4.out.size hwf (by decide) (HT.out.ext HE4.out)
  rw [hW] at hc
  clear hW hwf hw1
  refine hc.mono ?_
  clear hc
  rintro e w5 ⟨rfl, hs⟩
  obtain ⟨x5, d5, b5, kp⟩ := hs.keep
  obtain ⟨hb, hn⟩ := kp _ _ HB4.out HN4.out
  have HB5 := hid hb
  have HN5 := hid hn
  have D5 := hid d5
  have HE5 := hid (HE4.out.below b5)
  clear kp hs hb hn d5 b5 D4 HE4 HB4 HN4
  go_wp2_with fail
  have hc := dcrash_any 0 [] none 0 D5.out HE5.out.size (vec_none _) (by simp) (by simp) (HWA.out.cra 0 []).gd
  rw [cr1] at hc
  refine Calls.mono hc ?_
  clear hc
  rintro e w6 ⟨⟨u, rfl⟩, hs⟩
  obtain ⟨x6, d6, b6, kp⟩ := hs.keep
  obtain ⟨hb, hn⟩ := kp _ _ HB5.out HN5.out
  have HB6 := hid hb
  have HN6 := hid hn
  have D6 := hid d6
  have HE6 := hid (HE5.out.below b6)
  clear kp hs hb hn d6 b6 D5 HE5 HB5 HN5
  go_wp2_with fail
  refine (readA_any (some rA) D6.out (rds_A1 _ (by decide)) (HT.out.ext HE6.out)).mono ?_
  rintro e w7 ⟨rfl, hx⟩
  have HE7 := hid (HE6.out.trans (hx.trans (Ext.alloc w7 (rtO rA))))
  have D7 := hid (D6.out.ext (hx.trans (Ext.alloc w7 (rtO rA))))
  obtain ⟨k0, k1, k2, k3, k4, kf⟩ := blk5 (hx.obj HB6.out)
  have c0 := fun o => (Ext.alloc w7 o).cell k0
  have c1 := fun o => (Ext.alloc w7 o).cell k1
  have c2 := fun o => (Ext.alloc w7 o).cell k2
  have c3 := fun o => (Ext.alloc w7 o).cell k3
  have c4 := fun o => (Ext.alloc w7 o).cell k4
  clear hx D6 HE6 HB6 HN6
  go_wp2_with fail
  refine Calls.mono (rt_any rA _) ?_
  rintro e w8 ⟨rfl, hx⟩
  have D8 := hid (D7.out.ext hx)
  have HE8 := hid (HE7.out.trans hx)
  clear hx k0 k1 k2 k3 k4 kf c0 c1 c2 c3 c4 D7 HE7
  have hrb : rtB rA = true := by decide
  rw [hrb]
  clear hrb
  go_wp2_with fail
  have hc := write_any rt0 D8.out HE8.out.size HWA.out (by decide) (HT.out.ext HE8.out)
  rw [wr_no (by decide)] at hc
  refine Calls.mono hc ?_
  clear hc
  rintro e w9 ⟨rfl, hs⟩
  obtain ⟨x9, d9, b9, kp⟩ := hs.keep
  have HE9 := hid (HE8.out.below b9)
  clear hs d9 b9 kp
  go_wp2
  go_ret
  exact ⟨rfl, HE9.out⟩
theorem Below.at16 {B : Nat} {w w' : World} (h : Below B w w') {b : Nat} {o : Obj} (hb : w.heap[b]? = some o) (hl : b < B) : w'.heap[b]? = some o := (h.block b hl).trans hb
theorem write_at {B : Nat} {w : World} {p : Nat} {x : DX} {s s' : PS} {r : Rt} {c : Nat} (hq : wrP s r = (c, s')) (h : Dk B w p x s) (hB : B ≤ w.heap.size) (hw : WF s) (hl : s.opn.length ≤ 90000) (ht : Tab w) :
    Calls Tryz.prog 7 #[pv p, rtV r] w fun e w' => e = .returned (.int .i64 (c : Int)) ∧ Stp B w p x s' w' := by
  have := write_any r h hB hw hl ht
  rw [hq] at this
  exact this
theorem two_wr (a b : Rt) : ∃ s1 s2 o1 o2, wrP (newP (Int.toNat 1024)) a = (cond (rtB a) 0 1, s1) ∧ RdS s1 o1 ∧ o1 = cond (rtB a) (some a) none ∧ wrP s1 b = (cond (rtB b) 0 1, s2) ∧ RdS s2 o2 ∧ o2 = cond (rtB b) (some b) o1 ∧ WF s1 ∧ s1.opn.length ≤ 90000 := by
  have hn : WF (newP (Int.toNat 1024)) := wf_new (by decide)
  have la := rt_len a
  have lb := rt_len b
  have hwa := wf_wr hn a
  cases ha : rtB a with
  | false =>
    cases hb : rtB b with
    | false => exact ⟨_, _, _, _, wr_no ha, rds_new _, rfl, wr_no hb, rds_new _, rfl, hn, by decide⟩
    | true => exact ⟨_, _, _, _, wr_no ha, rds_new _, rfl, wr0 hb (by have : Int.toNat 1024 = 1024 := rfl; omega), rds_A1 _ hb, rfl, hn, by decide⟩
  | true =>
    have h1 : wrP (newP (Int.toNat 1024)) a = (0, A1 (Int.toNat 1024) (rtBytes a)) := wr0 ha (by have : Int.toNat 1024 = 1024 := rfl; omega)
    rw [h1] at hwa
    cases hb : rtB b with
    | false => exact ⟨_, _, _, _, h1, rds_A1 _ ha, rfl, wr_no hb, rds_A1 _ ha, rfl, hwa, Nat.zero_le _⟩
    | true => exact ⟨_, _, _, _, h1, rds_A1 _ ha, rfl, wr1 hb (by have : Int.toNat 1024 = 1024 := rfl; omega), rds_A2 _ _ hb, rfl, hwa, Nat.zero_le _⟩
end Go.Proofs.YtijpokajhjhllaaGreatDoor

set_option linter.unusedSimpArgs false
set_option linter.unusedVariables false
set_option maxRecDepth 100000
namespace Go.Proofs.YtijpokajhjhllaaGreatDoor
open Go Go.RowKit Go.Tum Go.Tum.Crc Go.WideShapes Go.ChangeShapes Go.ChangeAt Go.Deep
/-- What the row's list gives: the table. -/
def tabZ : List Int := [0, 0, 5, 2, 1, 2, 2, 1, 1, 1, 1, 1, 5, 7, 10, 2, 1, 1]
theorem tabZ_at : ∀ i : Fin 18, tabZ.getD i.val 0 = ((manyT.getD i.val 0 : Nat) : Int) := by decide
theorem array5r {α : Type} {cs : Array α} (h : cs.size = 5) : ∃ c0 c1 c2 c3 c4, cs = #[c0, c1, c2, c3, c4] := by
  obtain ⟨l⟩ := cs
  match l, h with
  | [c0, c1, c2, c3, c4], _ => exact ⟨c0, c1, c2, c3, c4, rfl⟩
theorem cellsRoot : Tryz.prog.cellsOf 35 = 5 := by kernel_rfl
theorem cellsCfg : Tryz.prog.cellsOf 33 = 3 := by kernel_rfl
theorem cellsU : Tryz.prog.cellsOf 31 = 1 := by kernel_rfl
theorem cellsI : Tryz.prog.cellsOf 3 = 1 := by kernel_rfl
section
variable {H : Type} {enc : TypeId × Value → H} {w : World} {base : Nat} {held : Bool}
theorem open_root {v : Value} {d : DataW H} {p : List MemPlace} {r : Reach} {b0 : Nat} (hval : Value.okWide Tryz.prog w r b0 35 v) (h : DataW.Trod enc Tryz.prog w base (fun _ => true) held 35 v d p) :
    ∃ x : Rt, v = rtV x := by
  obtain ⟨cs, rfl, hsz⟩ := okWide_struct Tryz.underlying35 hval
  obtain ⟨c0, c1, c2, c3, c4, rfl⟩ := array5r (hsz.trans cellsRoot)
  obtain ⟨fuel, hf⟩ := h
  obtain ⟨y0, y1, y2, n, -, -, h0, h1, h2⟩ := trod_struct3 Tryz.underlying35 hf
  simp only [Value.cells, cellsCfg, cellsU, cellsI, List.drop_zero, List.drop_succ_cons, List.take_succ_cons, List.take_zero] at h0 h1 h2
  obtain ⟨z0, z1, z2, m, -, -, g0, g1, g2⟩ := trod_struct3 Tryz.underlying33 h1
  simp only [cellsI, List.drop_zero, List.drop_succ_cons, List.take_succ_cons, List.take_zero] at g0 g1 g2
  obtain ⟨a0, e0, -, w0⟩ := DataW.trod_int Tryz.underlying31 h0
  obtain ⟨a1, e1, -, w1⟩ := DataW.trod_int Tryz.underlying3 g0
  obtain ⟨a2, e2, -, w2⟩ := DataW.trod_int Tryz.underlying3 g1
  obtain ⟨a3, e3, -, w3⟩ := DataW.trod_int Tryz.underlying3 g2
  obtain ⟨a4, e4, -, w4⟩ := DataW.trod_int Tryz.underlying3 h2
  obtain ⟨u, rfl⟩ := u64_of w0
  simp only [List.cons.injEq, and_true] at e0 e1 e2 e3 e4
  subst e0 e1 e2 e3 e4
  exact ⟨⟨u, a1, a2, a3, a4⟩, rfl⟩
end
end Go.Proofs.YtijpokajhjhllaaGreatDoor

set_option linter.unusedSimpArgs false
set_option linter.unusedVariables false
set_option maxRecDepth 100000
namespace Go.Proofs.YtijpokajhjhllaaGreatDoor
open Go Go.RowKit Go.Tum Go.ChangeMaps Go.Tum.Crc

/-- A directory whose root has these bytes, and all of them are sure; perhaps there is another file. -/
def GdD (fs : List (List UInt8 × Nat)) (b : List UInt8) (d : Dir) : Prop :=
  ∃ f, fs[f]? = some (b, b.length) ∧ (d = [(nRoot, f)] ∨ ∃ g y, g ≠ f ∧ fs[g]? = some y ∧ y.1.length ≤ 411 ∧ d = [(nRoot, f), (nFresh, g)])
/-- Behind any crash there is the one, or the other. -/
structure Mid (s : PS) (b c : List UInt8) : Prop where
  room : s.room = 4096
  all : ∀ k, k ≤ s.opn.length → GdD s.files b (dirAt s.sure (s.opn.take k)) ∨ GdD s.files c (dirAt s.sure (s.opn.take k))
structure WS (s : PS) (b : List UInt8) : Prop where
  room : s.room = 4096
  opn : s.opn = []
  down : s.down = false
  dir : GdD s.files b s.sure
theorem crF_all (t : Int) (b : List UInt8) : crF t (b, b.length) = (b, b.length) := by
  have e : (min (max t 0) ((b.length : Int) - b.length)).toNat = 0 := by omega
  unfold crF
  dsimp only
  rw [e]
  simp
theorem crF_le (t : Int) (y : List UInt8 × Nat) : (crF t y).1.length ≤ y.1.length := by
  unfold crF
  simp only [List.length_take]
  omega
theorem GdD.crash {fs : List (List UInt8 × Nat)} {b : List UInt8} {d : Dir} (h : GdD fs b d) (ts : List Int) : GdD (crA d ts fs) b d := by
  obtain ⟨f, hf, rfl | ⟨g, y, hgf, hg, hy, rfl⟩⟩ := h
  · refine ⟨f, ?_, .inl rfl⟩
    simp only [crA]
    rw [List.getElem?_modify, hf]
    simp [crF_all]
  · refine ⟨f, ?_, .inr ⟨g, crF (ts.tail.headD 0) y, hgf, ?_, Nat.le_trans (crF_le _ _) hy, rfl⟩⟩
    · simp only [crA]
      rw [List.getElem?_modify, List.getElem?_modify, hf]
      simp [crF_all, hgf]
    · simp only [crA]
      rw [List.getElem?_modify, List.getElem?_modify, hg]
      simp [Ne.symm hgf]
theorem Mid.crash {s : PS} {b c : List UInt8} (h : Mid s b c) (k : Int) (ts : List Int) : WS (crP s k ts) b ∨ WS (crP s k ts) c := by
  have e : s.opn.take k.toNat = s.opn.take (min k.toNat s.opn.length) := by
    rcases Nat.le_total k.toNat s.opn.length with h | h
    · rw [Nat.min_eq_left h]
    · rw [Nat.min_eq_right h, List.take_of_length_le h, List.take_of_length_le (Nat.le_refl _)]
  have h2 := h.all (min k.toNat s.opn.length) (Nat.min_le_right _ _)
  rw [← e] at h2
  rcases h2 with h2 | h2
  · exact .inl ⟨h.room, rfl, rfl, h2.crash ts⟩
  · exact .inr ⟨h.room, rfl, rfl, h2.crash ts⟩
theorem look_root (d : Dir) (f : Nat) (r : Dir) : look ((nRoot, f) :: r) nRoot = some f := rfl
theorem WS.rds {s : PS} {r : Rt} (h : WS s (rtBytes r)) (hr : rtB r = true) : RdS s (some r) := by
  obtain ⟨f, hf, hd⟩ := h.dir
  have hdir : s.dir = s.sure := by unfold PS.dir dirAt; rw [h.opn]; rfl
  have hl : look s.dir nRoot = some f := by
    rw [hdir]
    rcases hd with hd | ⟨g, y, -, -, -, hd⟩ <;> rw [hd] <;> rfl
  refine ⟨?_, ?_, hr⟩
  · unfold rdE
    rw [h.down, hl]
    rfl
  · unfold rdB
    rw [hl]
    simp [h.down, List.getD_eq_getElem?_getD, hf]
theorem doP_or (s : PS) (act : PS → PS) (hd : s.down = false) : doP s 0 act = (7, { s with down := true }) ∨ ∃ q, doP s 0 act = (0, act { s with fuse := q }) := by
  unfold doP
  rw [hd]
  by_cases hf : s.fuse = 0
  · left; simp [hf]
  · right; exact ⟨_, by rw [if_neg (by simp), if_neg (by simp), if_neg hf]⟩
theorem modify_last (fs : List (List UInt8 × Nat)) (y : List UInt8 × Nat) (g : List UInt8 × Nat → List UInt8 × Nat) : (fs ++ [y]).modify fs.length g = fs ++ [g y] := by
  apply List.ext_getElem?
  intro i
  rw [List.getElem?_modify]
  rcases Nat.lt_trichotomy i fs.length with h | h | h
  · rw [List.getElem?_append_left h, List.getElem?_append_left h]
    have : ¬ fs.length = i := by omega
    simp [this]
  · subst h
    simp
  · rw [List.getElem?_eq_none (by simp; omega), List.getElem?_eq_none (by simp; omega)]
    rfl
/-- What is wanted of a Write. -/
def WrR (b c : List UInt8) (R : Nat × PS) : Prop := R.1 = 7 ∧ Mid R.2 b c ∨ R.1 = 0 ∧ Mid R.2 c c
theorem wr_step {b c : List UInt8} {F : PS → Nat × PS} {l : List (PS → Nat × PS)} {s : PS} (h : (∃ t, F s = (7, t) ∧ Mid t b c) ∨ ∃ t, F s = (0, t) ∧ WrR b c (seqP l t)) : WrR b c (seqP (F :: l) s) := by
  rw [seqP_cons]
  rcases h with ⟨t, e, h⟩ | ⟨t, e, h⟩
  · rw [e, if_neg (by simp)]
    exact .inl ⟨rfl, h⟩
  · rw [e, if_pos rfl]
    exact h
theorem at_f {fs : List (List UInt8 × Nat)} {f : Nat} {y : List UInt8 × Nat} (h : fs[f]? = some y) (z : List UInt8 × Nat) : (fs ++ [z])[f]? = some y := by
  rw [List.getElem?_append_left (List.getElem?_eq_some_iff.1 h).1, h]
theorem at_m (fs : List (List UInt8 × Nat)) (z : List UInt8 × Nat) : (fs ++ [z])[fs.length]? = some z := by simp
theorem flen_of {fs : List (List UInt8 × Nat)} {f : Nat} {y : List UInt8 × Nat} (h : fs[f]? = some y) : flen fs f = y.1.length := by
  unfold flen; simp [List.getD_eq_getElem?_getD, h]

section
variable {fs : List (List UInt8 × Nat)} {b c : List UInt8} {f : Nat}
abbrev cD : Chg := ⟨nFresh, [], none⟩
abbrev cC (m : Nat) : Chg := ⟨[], nFresh, some m⟩
abbrev cR (m : Nat) : Chg := ⟨nFresh, nRoot, some m⟩
/-- From the moment that the new file is made: nobody else has the name. -/
theorem wr_from {D : Dir} {o : List Chg} (hf : fs[f]? = some (b, b.length)) (hb : b.length ≤ 411) (hc : c.length ≤ 411)
    (h0 : dirAt D o = [(nRoot, f)]) (hk : ∀ k, k ≤ o.length → GdD fs b (dirAt D (o.take k))) (hh : ∀ gs, (∀ i, i < fs.length → flen gs i = flen fs i) → sumL gs (D.map Prod.snd ++ newOf o) ≤ 822) (hno : newOf o = [])
    (hcre : ∀ q, creE ⟨4096, fs, D, o, q, false⟩ nFresh = 0) (q : Int) :
    WrR b c (seqP [fun s => creP s nFresh, fun s => appP s nFresh c, fun s => synP s nFresh, fun s => renP s nFresh nRoot, dsyP] ⟨4096, fs, D, o, q, false⟩) := by
  have hm : ∀ z, (fs ++ [z])[fs.length]? = some z := at_m fs
  have hne : fs.length ≠ f := by have := (List.getElem?_eq_some_iff.1 hf).1; omega
  have d1 : dirAt D (o ++ [cC fs.length]) = [(nRoot, f), (nFresh, fs.length)] := by
    unfold dirAt at h0 ⊢
    rw [List.foldl_append, h0]
    rfl
  have d2 : dirAt D (o ++ [cC fs.length] ++ [cR fs.length]) = [(nRoot, fs.length)] := by
    unfold dirAt at d1 ⊢
    rw [List.foldl_append, d1]
    rfl
  have l1 : ∀ (gs : List (List UInt8 × Nat)) (q : Int), look (⟨4096, gs, D, o ++ [cC fs.length], q, false⟩ : PS).dir nFresh = some fs.length := fun gs q => by
    unfold PS.dir
    dsimp only
    rw [d1]
    rfl
  have g0 : ∀ (z : List UInt8 × Nat) k, k ≤ o.length → GdD (fs ++ [z]) b (dirAt D (o.take k)) := by
    intro z k hk1
    obtain ⟨f', hf', h⟩ := hk k hk1
    refine ⟨f', at_f hf' z, ?_⟩
    rcases h with h | ⟨g, y, h1, h2, h3, h4⟩
    · exact .inl h
    · exact .inr ⟨g, y, h1, at_f h2 z, h3, h4⟩
  have g1 : ∀ z : List UInt8 × Nat, z.1.length ≤ 411 → ∀ k, k ≤ (o ++ [cC fs.length]).length → GdD (fs ++ [z]) b (dirAt D ((o ++ [cC fs.length]).take k)) := by
    intro z hz k hk1
    simp only [List.length_append, List.length_singleton] at hk1
    rcases Nat.lt_or_ge o.length k with h | h
    · obtain rfl : k = o.length + 1 := by omega
      rw [List.take_of_length_le (by simp), d1]
      exact ⟨f, at_f hf z, .inr ⟨fs.length, z, hne, hm z, hz, rfl⟩⟩
    · rw [List.take_append_of_le_length h]
      exact g0 z k h
  have g2 : ∀ k, k ≤ (o ++ [cC fs.length] ++ [cR fs.length]).length → GdD (fs ++ [(c, c.length)]) b (dirAt D ((o ++ [cC fs.length] ++ [cR fs.length]).take k)) ∨ GdD (fs ++ [(c, c.length)]) c (dirAt D ((o ++ [cC fs.length] ++ [cR fs.length]).take k)) := by
    intro k hk1
    rw [List.length_append (bs := [cR fs.length])] at hk1
    rcases Nat.lt_or_ge (o ++ [cC fs.length]).length k with h | h
    · obtain rfl : k = (o ++ [cC fs.length]).length + 1 := by simp at hk1 h ⊢; omega
      rw [List.take_of_length_le (by simp), d2]
      exact .inr ⟨fs.length, hm _, .inl rfl⟩
    · rw [List.take_append_of_le_length h]
      exact .inl (g1 (c, c.length) hc k h)
  refine wr_step ?_
  have e : creP ⟨4096, fs, D, o, q, false⟩ nFresh = doP ⟨4096, fs, D, o, q, false⟩ 0 fun s => { s with files := s.files ++ [([], 0)], opn := s.opn ++ [⟨[], nFresh, some s.files.length⟩] } := by unfold creP; rw [hcre]
  rw [e]
  clear e
  rcases doP_or ⟨4096, fs, D, o, q, false⟩ (fun s => { s with files := s.files ++ [([], 0)], opn := s.opn ++ [⟨[], nFresh, some s.files.length⟩] }) rfl with e | ⟨q, e⟩
  · exact .inl ⟨_, e, rfl, fun k hk1 => .inl (hk k hk1)⟩
  refine .inr ⟨_, e, wr_step ?_⟩
  clear e
  dsimp only
  have hE : appE ⟨4096, fs ++ [([], 0)], D, o ++ [cC fs.length], q, false⟩ nFresh c = 0 := by
    unfold appE
    rw [l1, if_neg (by simp), if_neg]
    have : held ⟨4096, fs ++ [([], 0)], D, o ++ [cC fs.length], q, false⟩ = sumL (fs ++ [([], 0)]) (D.map Prod.snd ++ newOf o) + flen (fs ++ [([], 0)]) fs.length := by
      have e1 : newOf (o ++ [cC fs.length]) = newOf o ++ [fs.length] := by unfold newOf; rw [List.filterMap_append]; rfl
      unfold held cntd
      dsimp only
      rw [e1, ← List.append_assoc]
      unfold sumL
      rw [List.map_append, List.sum_append]
      simp
    have h1 := hh (fs ++ [([], 0)]) (fun i hi => by unfold flen; simp [List.getD_eq_getElem?_getD, List.getElem?_append_left hi])
    have h2 : flen (fs ++ [([], 0)]) fs.length = 0 := by rw [flen_of (hm _)]; rfl
    rw [this]
    show ¬ 4096 < _
    omega
  have e : appP ⟨4096, fs ++ [([], 0)], D, o ++ [cC fs.length], q, false⟩ nFresh c = doP ⟨4096, fs ++ [([], 0)], D, o ++ [cC fs.length], q, false⟩ 0 fun s => { s with files := setF s.files (look s.dir nFresh) fun x => (x.1 ++ c, x.2) } := by unfold appP; rw [hE]
  rw [e]
  clear e hE
  rcases doP_or ⟨4096, fs ++ [([], 0)], D, o ++ [cC fs.length], q, false⟩ (fun s => { s with files := setF s.files (look s.dir nFresh) fun x => (x.1 ++ c, x.2) }) rfl with e | ⟨q, e⟩
  · exact .inl ⟨_, e, rfl, fun k hk1 => .inl (g1 ([], 0) (by simp) k hk1)⟩
  refine .inr ⟨_, e, wr_step ?_⟩
  clear e
  dsimp only
  rw [l1]
  unfold setF
  dsimp only
  rw [modify_last]
  dsimp only
  rw [List.nil_append]
  have e : synP ⟨4096, fs ++ [(c, 0)], D, o ++ [cC fs.length], q, false⟩ nFresh = doP ⟨4096, fs ++ [(c, 0)], D, o ++ [cC fs.length], q, false⟩ 0 fun s => { s with files := setF s.files (look s.dir nFresh) fun x => (x.1, x.1.length) } := by unfold synP missP; rw [l1]; rfl
  rw [e]
  clear e
  rcases doP_or ⟨4096, fs ++ [(c, 0)], D, o ++ [cC fs.length], q, false⟩ (fun s => { s with files := setF s.files (look s.dir nFresh) fun x => (x.1, x.1.length) }) rfl with e | ⟨q, e⟩
  · exact .inl ⟨_, e, rfl, fun k hk1 => .inl (g1 (c, 0) hc k hk1)⟩
  refine .inr ⟨_, e, wr_step ?_⟩
  clear e
  dsimp only
  rw [l1]
  unfold setF
  dsimp only
  rw [modify_last]
  dsimp only
  have e : renP ⟨4096, fs ++ [(c, c.length)], D, o ++ [cC fs.length], q, false⟩ nFresh nRoot = doP ⟨4096, fs ++ [(c, c.length)], D, o ++ [cC fs.length], q, false⟩ 0 fun s => { s with opn := s.opn ++ [⟨nFresh, nRoot, look s.dir nFresh⟩] } := by
    have hE : renE ⟨4096, fs ++ [(c, c.length)], D, o ++ [cC fs.length], q, false⟩ nFresh nRoot = 0 := by unfold renE; rw [l1]; rfl
    unfold renP; rw [hE]
  rw [e]
  clear e
  rcases doP_or ⟨4096, fs ++ [(c, c.length)], D, o ++ [cC fs.length], q, false⟩ (fun s => { s with opn := s.opn ++ [⟨nFresh, nRoot, look s.dir nFresh⟩] }) rfl with e | ⟨q, e⟩
  · exact .inl ⟨_, e, rfl, fun k hk1 => .inl (g1 (c, c.length) hc k hk1)⟩
  refine .inr ⟨_, e, wr_step ?_⟩
  clear e
  dsimp only
  rw [l1]
  unfold dsyP
  rcases doP_or ⟨4096, fs ++ [(c, c.length)], D, o ++ [cC fs.length] ++ [cR fs.length], q, false⟩ (fun s => { s with sure := s.dir, opn := [] }) rfl with e | ⟨q, e⟩
  · exact .inl ⟨_, e, rfl, g2⟩
  refine .inr ⟨_, e, .inr ⟨rfl, rfl, ?_⟩⟩
  clear e
  intro k hk1
  have : k = 0 := Nat.le_zero.1 hk1
  subst this
  refine .inl ?_
  show GdD (fs ++ [(c, c.length)]) c (dirAt D (o ++ [cC fs.length] ++ [cR fs.length]))
  rw [d2]
  exact ⟨fs.length, hm _, .inl rfl⟩
end
theorem wr_whole {s : PS} {b : List UInt8} {r : Rt} (h : WS s b) (hb : b.length ≤ 411) (hr : rtB r = true) : WrR b (rtBytes r) (wrP s r) := by
  have hc := (rt_len r).1
  unfold wrP
  rw [if_pos hr]
  obtain ⟨c, hcc⟩ : ∃ c, rtBytes r = c := ⟨_, rfl⟩
  rw [hcc] at hc ⊢
  obtain ⟨room, fs, D, o, q, dn⟩ := s
  obtain ⟨h1, h2, h3, f, hf, hd⟩ := h
  dsimp only at h1 h2 h3 hf hd
  subst h1 h2 h3
  unfold wrOps
  rcases hd with rfl | ⟨g, y, hgf, hg, hy, rfl⟩
  · refine wr_step (.inr ⟨⟨4096, fs, [(nRoot, f)], [], q, false⟩, rfl, ?_⟩)
    refine wr_from hf hb hc rfl (fun k hk => ?_) (fun gs hgs => ?_) rfl (fun q => rfl) q
    · have : k = 0 := by simpa using hk
      subst this
      exact ⟨f, hf, .inl rfl⟩
    · have := hgs f (List.getElem?_eq_some_iff.1 hf).1
      rw [flen_of hf] at this
      show flen gs f + 0 ≤ 822
      simp only at this
      omega
  · refine wr_step ?_
    have hx : ∀ R : Nat × PS, delP ⟨4096, fs, [(nRoot, f), (nFresh, g)], [], q, false⟩ nFresh = R → R.1 ≠ 5 → delT nFresh ⟨4096, fs, [(nRoot, f), (nFresh, g)], [], q, false⟩ = R := fun R e hR => by
      unfold delT
      rw [e, if_neg hR]
    have e0 : delP ⟨4096, fs, [(nRoot, f), (nFresh, g)], [], q, false⟩ nFresh = doP ⟨4096, fs, [(nRoot, f), (nFresh, g)], [], q, false⟩ 0 fun s => { s with opn := s.opn ++ [⟨nFresh, [], none⟩] } := rfl
    rcases doP_or ⟨4096, fs, [(nRoot, f), (nFresh, g)], [], q, false⟩ (fun s => { s with opn := s.opn ++ [⟨nFresh, [], none⟩] }) rfl with e | ⟨q, e⟩
    · refine .inl ⟨_, hx _ (e0.trans e) (by simp), rfl, fun k hk => ?_⟩
      have : k = 0 := by simpa using hk
      subst this
      exact .inl ⟨f, hf, .inr ⟨g, y, hgf, hg, hy, rfl⟩⟩
    refine .inr ⟨_, hx _ (e0.trans e) (by simp), ?_⟩
    clear e e0 hx
    dsimp only
    refine wr_from hf hb hc rfl (fun k hk => ?_) (fun gs hgs => ?_) rfl (fun q => rfl) q
    · match k, hk with
      | 0, _ => exact ⟨f, hf, .inr ⟨g, y, hgf, hg, hy, rfl⟩⟩
      | 1, _ => exact ⟨f, hf, .inl rfl⟩
      | k + 2, hk => simp at hk
    · have h1 := hgs f (List.getElem?_eq_some_iff.1 hf).1
      have h2 := hgs g (List.getElem?_eq_some_iff.1 hg).1
      rw [flen_of hf] at h1
      rw [flen_of hg] at h2
      show flen gs f + (flen gs g + 0) ≤ 822
      simp only at h1
      omega
theorem WS.fus {s : PS} {b : List UInt8} (h : WS s b) (n : Int) : WS (fusP s n) b := ⟨h.room, h.opn, h.down, h.dir⟩
/-- One act. -/
theorem whole_act {s : PS} {a r : Rt} (h : WS s (rtBytes a)) (ha : rtB a = true) (hr : rtB r = true) (n k : Int) (ts : List Int) :
    ∃ e s1 z, wrP (fusP s n) r = (e, s1) ∧ (e = 0 ∨ e = 7) ∧ WS (crP s1 k ts) (rtBytes z) ∧ rtB z = true ∧ (e = 0 → z = r) ∧ (z = a ∨ z = r) := by
  have hw := wr_whole (h.fus n) (rt_len a).1 hr
  obtain ⟨R, hR⟩ : ∃ R, wrP (fusP s n) r = R := ⟨_, rfl⟩
  rw [hR] at hw
  obtain ⟨e, s1⟩ := R
  rcases hw with ⟨e7, hm⟩ | ⟨e0, hm⟩
  · dsimp only at e7 hm
    rcases hm.crash k ts with hc | hc
    · exact ⟨e, s1, a, hR, .inr e7, hc, ha, fun e0 => by omega, .inl rfl⟩
    · exact ⟨e, s1, r, hR, .inr e7, hc, hr, fun _ => rfl, .inr rfl⟩
  · dsimp only at e0 hm
    refine ⟨e, s1, r, hR, .inl e0, ?_, hr, fun _ => rfl, .inr rfl⟩
    rcases hm.crash k ts with hc | hc <;> exact hc
theorem whole_first {r : Rt} (h : rtB r = true) : ∃ s, wrP (newP (Int.toNat 4096)) r = (0, s) ∧ WS s (rtBytes r) := by
  refine ⟨A1 4096 (rtBytes r), wr0 h (by have := (rt_len r).1; have : Int.toNat 4096 = 4096 := rfl; omega), rfl, rfl, rfl, 0, rfl, .inl rfl⟩
end Go.Proofs.YtijpokajhjhllaaGreatDoor

set_option linter.unusedSimpArgs false
set_option linter.unusedVariables false
namespace Go.Proofs.YtijpokajhjhllaaGreatDoor
open Go Go.RowKit Go.Tum Go.ChangeMaps Go.WideShapes Go.ChangeShapes

/-- An act of the laws. -/
structure At where
  dn : Int
  n : Int
  name : Nm
  to : Nm
  b : List UInt8
  ts : List Int
/-- .. with where its slices lie. -/
abbrev AtV := At × Value × Value
abbrev acells (p : AtV) : List Value := [.int .i64 p.1.dn, .int .i64 p.1.n, vN p.1.name, vN p.1.to, p.2.1, p.2.2]
def i64 (z : Int) : Prop := -9223372036854775808 ≤ z ∧ z ≤ 9223372036854775807
structure AtOk (w : World) (p : AtV) : Prop where
  name : p.1.name.length ≤ maxLen
  to : p.1.to.length ≤ maxLen
  n : i64 p.1.n
  b : Byt w p.2.1 p.1.b
  t : Vec Go.Tum.iv w p.2.2 p.1.ts
  ts : ∀ t ∈ p.1.ts, i64 t
theorem AtOk.ext {w w' : World} {p : AtV} (h : AtOk w p) (k : Ext w w') : AtOk w' p := ⟨h.name, h.to, h.n, h.b.ext k, h.t.ext k, h.ts⟩
/-- The slice v holds the acts m. -/
def Acts (w : World) (v : Value) (m : List AtV) : Prop := RowsOf w 6 v acells m ∧ ∀ p ∈ m, AtOk w p

theorem i64_of {n : Int} (h : (Lit.int .i64 n).wf = true) : i64 n := by
  simpa [i64, Lit.wf, IntKind.min, IntKind.max, IntKind.signed, IntKind.bits] using h
theorem vec_of_row_i64 {w : World} {a : Option Addr} {len cap : Nat} {zs : List Int}
    (h : (a = none ∧ len = 0 ∧ cap = 0 ∧ zs = []) ∨
      ∃ x, a = some x ∧ len ≤ cap ∧ cap ≤ maxLen ∧ zs.length = cap ∧ (∀ i, i < zs.length → w.cell? (x.add i) = some (.int .i64 (zs.getD i 0))) ∧ ∀ n ∈ zs, (Lit.int .i64 n).wf = true) :
    ∃ l : List Int, Vec Go.Tum.iv w (.slice a len cap) l ∧ ∀ t ∈ l, i64 t := by
  rcases h with ⟨rfl, rfl, rfl, rfl⟩ | ⟨x, rfl, hlc, hcm, hz, hc, hw⟩
  · exact ⟨[], Sl.nil w 1, fun t h => absurd h (by simp)⟩
  · refine ⟨zs.take len, ?_, fun t ht => i64_of (hw t (List.mem_of_mem_take ht))⟩
    have hlen : (zs.take len).length = len := by simp; omega
    unfold Vec
    rw [hlen]
    refine ⟨by simp; omega, some x, cap, rfl, hlc, hcm, (fun h => by cases h), fun a ha j u hu => ?_⟩
    cases ha
    have hj : j < len := by
      rcases Nat.lt_or_ge j len with h | h
      · exact h
      · rw [List.getElem?_eq_none (by simp; omega)] at hu; cases hu
    have hjz : j < zs.length := by omega
    have h1 := hc j hjz
    rw [List.getElem?_map, List.getElem?_take_of_lt hj, List.getElem?_eq_getElem hjz] at hu
    simp at hu
    rw [h1, ← hu]
    simp [List.getD_eq_getElem?_getD, hjz]

section
variable {H : Type} {enc : TypeId × Value → H} {w : World} {base : Nat} {held : Bool}
theorem nm_of (s : ByteArray) : s = str s.data.toList := by
  apply ByteArray.ext
  simp [str]
theorem nm_len {s : ByteArray} (h : s.size ≤ maxLen) : s.data.toList.length ≤ maxLen := by
  have : s.data.toList.length = s.size := Array.length_toList
  rw [this]; exact h
set_option maxRecDepth 100000 in
theorem open_ivs {v : Value} {fuel : Nat} {x : DataW H × List MemPlace} (h : DataW.trod enc Tryz.prog w base (fun _ => true) held fuel 36 [v] = some x) :
    ∃ l : List Int, Vec Go.Tum.iv w v l ∧ ∀ t ∈ l, i64 t := by
  rcases open_ints Tryz.underlying36 Tryz.underlying3 (by kernel_rfl) h with ⟨h0, _⟩ | ⟨a, len, cap, zs, hcs, hb, hl, hm, hz, hx, hcell, hw⟩
  · simp at h0; subst h0
    exact vec_of_row_i64 (.inl ⟨rfl, rfl, rfl, rfl⟩)
  · simp at hcs; subst hcs
    exact vec_of_row_i64 (.inr ⟨a, rfl, hl, hm, by simpa using hz, hcell, hw⟩)
end

theorem Dk.low {B : Nat} {w : World} {p : Nat} {x : DX} {s : PS} (h : Dk B w p x s) : ∀ q ∈ x.blk p, B ≤ q := by
  intro q hq
  unfold DX.blk at hq
  simp only [List.mem_cons, List.mem_append, List.mem_flatMap, List.mem_map] at hq
  rcases hq with rfl | rfl | rfl | (hq | ⟨z, hz, rfl⟩) | ⟨z, hz, hq⟩
  · exact h.lo.1
  · exact h.lo.2.1
  · exact h.lo.2.2.1
  · rcases h.op.2 with ⟨hv, -⟩ | ⟨g, cap, cur, hv, hb, -⟩
    · rw [hv] at hq; simp [oB, Value.ownBlock] at hq
    · rw [hv] at hq; simp [oB, Value.ownBlock] at hq; subst hq; exact hb
  · obtain ⟨i, hi, rfl⟩ := List.mem_iff_getElem.1 hz
    have := h.lo.2.2.2 i (by rw [← h.fn]; exact hi)
    simpa [DX.bk, List.getD_eq_getElem?_getD, hi] using this
  · obtain ⟨i, hi, rfl⟩ := List.mem_iff_getElem.1 hz
    have h2 := (h.fi i (by rw [← h.fn]; exact hi)).2
    have e : x.sv i = x.bl[i].2 := by simp [DX.sv, List.getD_eq_getElem?_getD, hi]
    rw [e] at h2
    rcases h2.2 with hv | ⟨g, cap, cur, hv, hb, -⟩
    · rw [hv.1] at hq; simp [oB, Value.ownBlock] at hq
    · rw [hv] at hq; simp [oB, Value.ownBlock] at hq; subst hq; exact hb

/-! ### large -/
def bigA (p : AtV) : Bool := decide (1000 < p.1.b.length) || (decide (1000 < p.1.name.length + p.1.to.length) || decide (1000 < p.1.ts.length))
def largeA (m : List AtV) : Bool := decide (40 < m.length) || m.any bigA
end Go.Proofs.YtijpokajhjhllaaGreatDoor

set_option linter.unusedSimpArgs false
set_option linter.unusedVariables false
set_option maxRecDepth 100000
namespace Go.Proofs.YtijpokajhjhllaaGreatDoor
open Go Go.RowKit Go.Tum Go.ChangeMaps Go.WideShapes Go.ChangeShapes Go.Deep

/-- An act of layer 16's laws. -/
structure Ar where
  dn : Int
  n : Int
  r : Rt
  ts : List Int
  name : Nm
  b : List UInt8
/-- .. with where its slices lie. -/
abbrev ArV := Ar × Value × Value
abbrev racells (p : ArV) : List Value := [.int .i64 p.1.dn, .int .i64 p.1.n, uv p.1.r.gen, .int .i64 p.1.r.lanes, .int .i64 p.1.r.pay, .int .i64 p.1.r.del, .int .i64 p.1.r.seg, p.2.1, vN p.1.name, p.2.2]
structure ArOk (w : World) (p : ArV) : Prop where
  dn : i64 p.1.dn
  n : i64 p.1.n
  t : Vec Go.Tum.iv w p.2.1 p.1.ts
  ts : ∀ t ∈ p.1.ts, i64 t
  name : p.1.name.length ≤ maxLen
  b : Byt w p.2.2 p.1.b
theorem ArOk.ext {w w' : World} {p : ArV} (h : ArOk w p) (k : Ext w w') : ArOk w' p := ⟨h.dn, h.n, h.t.ext k, h.ts, h.name, h.b.ext k⟩
/-- The slice v holds the acts m. -/
def ActsR (w : World) (v : Value) (m : List ArV) : Prop := RowsOf w 10 v racells m ∧ ∀ p ∈ m, ArOk w p
theorem ActsR.ext {w w' : World} {v : Value} {m : List ArV} (h : ActsR w v m) (k : Ext w w') : ActsR w' v m := ⟨h.1.ext k, fun p hp => (h.2 p hp).ext k⟩
theorem cellsActR : Tryz.prog.cellsOf 39 = 10 := by kernel_rfl
theorem cellsIs : Tryz.prog.cellsOf 36 = 1 := by kernel_rfl
theorem cellsBs : Tryz.prog.cellsOf 37 = 1 := by kernel_rfl
theorem cellsSt : Tryz.prog.cellsOf 9 = 1 := by kernel_rfl
theorem list10 {α : Type} {l : List α} (h : l.length = 10) : ∃ a b c d e f g i j k, l = [a, b, c, d, e, f, g, i, j, k] := by
  match l, h with
  | [a, b, c, d, e, f, g, i, j, k], _ => exact ⟨a, b, c, d, e, f, g, i, j, k, rfl⟩
section
variable {H : Type} {enc : TypeId × Value → H} {w : World} {base : Nat} {held : Bool}
theorem open_root5 {fuel : Nat} {c0 c1 c2 c3 c4 : Value} {x : DataW H × List MemPlace} (hf : DataW.trod enc Tryz.prog w base (fun _ => true) held fuel 35 [c0, c1, c2, c3, c4] = some x) :
    ∃ x : Rt, [c0, c1, c2, c3, c4] = [uv x.gen, .int .i64 x.lanes, .int .i64 x.pay, .int .i64 x.del, .int .i64 x.seg] := by
  obtain ⟨y0, y1, y2, n, -, -, h0, h1, h2⟩ := trod_struct3 Tryz.underlying35 hf
  simp only [cellsCfg, cellsU, cellsI, List.drop_zero, List.drop_succ_cons, List.take_succ_cons, List.take_zero] at h0 h1 h2
  obtain ⟨z0, z1, z2, m, -, -, g0, g1, g2⟩ := trod_struct3 Tryz.underlying33 h1
  simp only [cellsI, List.drop_zero, List.drop_succ_cons, List.take_succ_cons, List.take_zero] at g0 g1 g2
  obtain ⟨a0, e0, -, w0⟩ := DataW.trod_int Tryz.underlying31 h0
  obtain ⟨a1, e1, -, w1⟩ := DataW.trod_int Tryz.underlying3 g0
  obtain ⟨a2, e2, -, w2⟩ := DataW.trod_int Tryz.underlying3 g1
  obtain ⟨a3, e3, -, w3⟩ := DataW.trod_int Tryz.underlying3 g2
  obtain ⟨a4, e4, -, w4⟩ := DataW.trod_int Tryz.underlying3 h2
  obtain ⟨u, rfl⟩ := u64_of w0
  simp only [List.cons.injEq, and_true] at e0 e1 e2 e3 e4
  subst e0 e1 e2 e3 e4
  exact ⟨⟨u, a1, a2, a3, a4⟩, rfl⟩
theorem open_actsR {v : Value} {d : DataW H} {p : List MemPlace} {r : Reach} {b0 : Nat} (hval : Value.okWide Tryz.prog w r b0 22 v) (h : DataW.Trod enc Tryz.prog w base (fun _ => true) held 22 v d p) :
    ∃ m : List ArV, ActsR w v m := by
  obtain ⟨a, len, cap, rfl⟩ := okWide_slice Tryz.underlying22 hval
  obtain ⟨fuel, hf⟩ := h
  replace hf : DataW.trod enc Tryz.prog w base (fun _ => true) held fuel 22 [.slice a len cap] = some (d, p) := hf
  rcases open_slice Tryz.underlying22 hf with ⟨h0, _⟩ | ⟨a, len, cap, m, n0, D, Pl, hcs, hb, hl, hm, hmm, hx, hi⟩
  · simp at h0
    obtain ⟨rfl, rfl, rfl⟩ := h0
    exact ⟨[], RowsOf.nil _ _ _, fun p h => absurd h (by simp)⟩
  · simp at hcs
    obtain ⟨rfl, rfl, rfl⟩ := hcs
    simp at hmm
    subst hmm
    have hrow : ∀ i, i < len → ∃ q : ArV, ArOk w q ∧ ∀ j u, (racells q)[j]? = some u → w.cell? (a.add (i * 10 + j)) = some u := by
      intro i hil
      obtain ⟨cs', hc, htr⟩ := hi i (by omega)
      rw [cellsActR] at hc
      obtain ⟨_, hcl, hat⟩ := World.cells?_some hc
      obtain ⟨ys, n', -, -, -, hyl, hfj⟩ := DataW.trod_struct Tryz.underlying39 htr
      obtain ⟨c0, c1, c2, c3, c4, c5, c6, c7, c8, c9, rfl⟩ := list10 hcl
      have hcell : ∀ j u, [c0, c1, c2, c3, c4, c5, c6, c7, c8, c9][j]? = some u → w.cell? (a.add (i * 10 + j)) = some u := by
        intro j u hu
        have hj : j < 10 := (List.getElem?_eq_some_iff.1 hu).1
        have h1 := hat j hj
        rw [Go.Deep.add_add] at h1
        rw [h1, hu]
      have t0 : DataW.trod enc Tryz.prog w base (fun _ => true) held n' 3 (([c0, c1, c2, c3, c4, c5, c6, c7, c8, c9].drop 0).take (Tryz.prog.cellsOf 3)) = ys[0]? := hfj 0 _ rfl
      have t1 : DataW.trod enc Tryz.prog w base (fun _ => true) held n' 3 (([c0, c1, c2, c3, c4, c5, c6, c7, c8, c9].drop 1).take (Tryz.prog.cellsOf 3)) = ys[1]? := hfj 1 _ rfl
      have t2 : DataW.trod enc Tryz.prog w base (fun _ => true) held n' 35 (([c0, c1, c2, c3, c4, c5, c6, c7, c8, c9].drop 2).take (Tryz.prog.cellsOf 35)) = ys[2]? := hfj 2 _ rfl
      have t3 : DataW.trod enc Tryz.prog w base (fun _ => true) held n' 36 (([c0, c1, c2, c3, c4, c5, c6, c7, c8, c9].drop 7).take (Tryz.prog.cellsOf 36)) = ys[3]? := hfj 3 _ rfl
      have t4 : DataW.trod enc Tryz.prog w base (fun _ => true) held n' 9 (([c0, c1, c2, c3, c4, c5, c6, c7, c8, c9].drop 8).take (Tryz.prog.cellsOf 9)) = ys[4]? := hfj 4 _ rfl
      have t5 : DataW.trod enc Tryz.prog w base (fun _ => true) held n' 37 (([c0, c1, c2, c3, c4, c5, c6, c7, c8, c9].drop 9).take (Tryz.prog.cellsOf 37)) = ys[5]? := hfj 5 _ rfl
      clear hfj
      have hyl : ys.length = 6 := hyl
      rw [cellsI] at t0
      rw [cellsI] at t1
      rw [cellsRoot] at t2
      rw [cellsIs] at t3
      rw [cellsSt] at t4
      rw [cellsBs] at t5
      have g0 : DataW.trod enc Tryz.prog w base (fun _ => true) held n' 3 [c0] = _ := t0.trans (List.getElem?_eq_getElem (show 0 < ys.length by omega))
      have g1 : DataW.trod enc Tryz.prog w base (fun _ => true) held n' 3 [c1] = _ := t1.trans (List.getElem?_eq_getElem (show 1 < ys.length by omega))
      have g2 : DataW.trod enc Tryz.prog w base (fun _ => true) held n' 35 [c2, c3, c4, c5, c6] = _ := t2.trans (List.getElem?_eq_getElem (show 2 < ys.length by omega))
      have g3 : DataW.trod enc Tryz.prog w base (fun _ => true) held n' 36 [c7] = _ := t3.trans (List.getElem?_eq_getElem (show 3 < ys.length by omega))
      have g4 : DataW.trod enc Tryz.prog w base (fun _ => true) held n' 9 [c8] = _ := t4.trans (List.getElem?_eq_getElem (show 4 < ys.length by omega))
      have g5 : DataW.trod enc Tryz.prog w base (fun _ => true) held n' 37 [c9] = _ := t5.trans (List.getElem?_eq_getElem (show 5 < ys.length by omega))
      clear t0 t1 t2 t3 t4 t5
      obtain ⟨z0, e0, -, w0⟩ := DataW.trod_int Tryz.underlying3 g0
      obtain ⟨z1, e1, -, w1⟩ := DataW.trod_int Tryz.underlying3 g1
      obtain ⟨rr, er⟩ := open_root5 g2
      obtain ⟨l7, h7, i7⟩ := open_ivs g3
      obtain ⟨s8, e8, -, hs8⟩ := DataW.trod_string Tryz.underlying9 g4
      obtain ⟨l9, h9⟩ := open_byt_trod Tryz.underlying37 Tryz.underlying5 (by kernel_rfl) g5
      simp only [List.cons.injEq, and_true] at e0 e1 er e8
      obtain ⟨er2, er3, er4, er5, er6⟩ := er
      subst e0 e1 er2 er3 er4 er5 er6 e8
      rw [nm_of s8] at hcell
      refine ⟨(⟨z0, z1, rr, l7, s8.data.toList, l9⟩, c7, c9), ⟨i64_of w0, i64_of w1, h7, i7, nm_len hs8, h9⟩, hcell⟩
    obtain ⟨q, hq, hQ⟩ := list_of len hrow
    refine ⟨q, RowsOf.mk' hq hl hm (by decide) (fun _ _ => rfl) (fun i h j u hu => (hQ i h).2 j u hu), ?_⟩
    intro p hp
    obtain ⟨i, hil, rfl⟩ := List.mem_iff_getElem.1 hp
    exact (hQ i hil).1
end
end Go.Proofs.YtijpokajhjhllaaGreatDoor

