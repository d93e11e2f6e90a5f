/- For every input the law RootWhole returns true and leaves what was there as it was; and its card.
The root's laws: that it's awake; RootBack.
A root among the arguments, opened.
RootWhole: the mathematics. A root is written behind another one, the power goes, the disk crashes: the one, or the other.
The laws' acts: as arguments; large; the disk's blocks lie high.
Layer 16's acts, as arguments.
RootWhole. -/
import Derived.Test.YtiblhopjhpflpaaDoorRotMD
import Derived.Test.YtiblhopjhpflpaaDoorDskMJ
import Derived.Test.YtiblhopjhpflpaaDoorDskMK
import Derived.Test.YtiblhopjhpflpaaDoorOpenV
import Derived.Lib.SmallJoins
import Derived.Test.YtiblhopjhpflpaaDoorOpen
import Derived.Deep.QuietTactic
import Derived.BigQuiet
import Derived.Handy
import Derived.Test.YtiblhopjhpflpaaDoorCards
import Derived.Test.YtiblhopjhpflpaaDoorTie
import Derived.WalkKit
import Derived.ProofKit
import Derived.OpenShut
import Derived.Below
import Derived.Deep.DeepHandedRow
import Derived.Lib.LaidTab
import Derived.Test.YtiblhopjhpflpaaDoorFrame
set_option linter.unusedSimpArgs false
set_option linter.unusedVariables false
set_option maxRecDepth 100000
namespace Go.Proofs.YtiblhopjhpflpaaDoor
open Go Go.RowKit Go.Tum Go.ChangeMaps Go.Tum.Crc

/-- A step of the disk: what lies elsewhere stays, and stays elsewhere. -/
theorem Stp.keep {B : Nat} {w w' : World} {p : Nat} {x : DX} {s : PS} (h : Stp B w p x s w') :
    ∃ x', Dk B w' p x' s ∧ Below B w w' ∧ ∀ b o, w.heap[b]? = some o → b ∉ x.blk p → w'.heap[b]? = some o ∧ b ∉ x'.blk p := by
  obtain ⟨x', d, f, bl, q⟩ := h
  refine ⟨x', d, bl, fun b o hb hn => ⟨fr_at16 f hb hn, fun hm => ?_⟩⟩
  have hl := (Array.getElem?_eq_some_iff.1 hb).1
  rcases q b hm with h1 | h1
  · exact hn h1
  · omega
theorem Dk.new_nin {B : Nat} {w : World} {p : Nat} {x : DX} {s : PS} (h : Dk B w p x s) : w.heap.size ∉ x.blk p := fun hm => by have := h.lt16 _ hm; omega
/-- What is read of a disk. -/
def RdS (s : PS) : Option Rt → Prop
  | none => rdE s nRoot = 5
  | some r => rdE s nRoot = 0 ∧ rdB s nRoot = rtBytes r ∧ rtB r = true
theorem readA_any {B : Nat} {w : World} {p : Nat} {x : DX} {s : PS} (o : Option Rt) (h : Dk B w p x s) (ho : RdS s o) (ht : Tab w) :
    Calls Tryd.prog 12 #[pv p] w fun e w' => e = .returned (.tuple #[rtV (o.getD rt0), .int .i64 (if o.isSome then 0 else 5)]) ∧ Ext w w' := by
  cases o with
  | none => exact readN_any h ho
  | some r => exact readR_any r h ho.1 ho.2.1 ho.2.2 ht
theorem rds_new (n : Nat) : RdS (newP n) none := rfl
theorem rds_A1 (n : Nat) {r : Rt} (h : rtB r = true) : RdS (A1 n (rtBytes r)) (some r) := ⟨rfl, by rfl, h⟩
theorem rds_A2 (n : Nat) (b : List UInt8) {r : Rt} (h : rtB r = true) : RdS (A2 n b (rtBytes r)) (some r) := ⟨rfl, by rfl, h⟩
theorem wr_no {s : PS} {r : Rt} (h : rtB r = false) : wrP s r = (1, s) := by unfold wrP; rw [h]; rfl
theorem wf_seq : ∀ (l : List (PS → Nat × PS)) (s : PS), WF s → (∀ f ∈ l, ∀ s, WF s → WF (f s).2) → WF (seqP l s).2
  | [], _, h, _ => h
  | f :: r, s, h, k => by
    rw [seqP_cons]
    have h1 := k f (by simp) s h
    split
    · exact wf_seq r _ h1 fun g hg => k g (List.mem_cons_of_mem _ hg)
    · exact h1
theorem wf_wr {s : PS} (h : WF s) (r : Rt) : WF (wrP s r).2 := by
  unfold wrP
  split
  · refine wf_seq _ _ h ?_
    unfold wrOps
    intro f hf s hs
    simp only [List.mem_cons, List.not_mem_nil, or_false] at hf
    rcases hf with rfl | rfl | rfl | rfl | rfl | rfl
    · exact hs.delT _
    · exact hs.cre _
    · exact hs.app _ _
    · exact hs.syn _
    · exact hs.ren _ _
    · exact hs.dsy
  · exact h
abbrev rA : Rt := ⟨3, 2, 5, 1, 64⟩
theorem vec_none (w : World) : Vec Go.Tum.iv w (.slice none 0 0) [] := Vec.nil _
set_option maxHeartbeats 4000000 in
theorem awake16_any (w : World) (ht : Tab w) : Calls Tryd.prog 6 #[] w fun e w' => e = .returned (.bool true) ∧ Ext w w' := by
  have HT := hid ht
  have hc := dnew_any w w.heap.size (Nat.le_refl _) 200
  have HC := hid hc
  clear ht hc
  go_enter Tryd.func6, Tryd.ntmps6
  go_wp2_with fail
  refine HC.out.mono ?_
  rintro e w1 ⟨-, h⟩
  obtain ⟨p, x, rfl, d1, x1, q1⟩ := h (by decide) (by decide)
  have D1 := hid d1
  have HE1 := hid x1
  clear h d1 x1 q1 HC
  go_wp2_with fail
  refine (readA_any none D1.out (rds_new _) (HT.out.ext HE1.out)).mono ?_
  rintro e w2 ⟨rfl, hx⟩
  have HE2 := hid (HE1.out.trans hx)
  have D2 := hid (D1.out.ext hx)
  clear hx HE1 D1
  obtain ⟨W3, hW3⟩ : ∃ W, w2.alloc (rtO rt0) = W := ⟨_, rfl⟩
  have HW3 := hid hW3
  obtain ⟨W4, hW4⟩ : ∃ W, W3.alloc (rtO rA) = W := ⟨_, rfl⟩
  have HW4 := hid hW4
  have hE3 : Ext w2 W3 := by rw [← hW3]; exact Ext.alloc _ _
  have hE4 : Ext W3 W4 := by rw [← hW4]; exact Ext.alloc _ _
  have hb := heap_alloc_new W3 (rtO rA)
  rw [hW4] at hb
  have D3 := hid (D2.out.ext hE3)
  have D4 := hid (D3.out.ext hE4)
  have HN4 := hid D3.out.new_nin
  have HE4 := hid (HE2.out.trans (hE3.trans hE4))
  have HB4 := hid hb
  clear hE3 hE4 D2 D3 HE2
  obtain ⟨k0, k1, k2, k3, k4, kf⟩ := blk5 hb
  clear hb
  go_wp2_with fail
  have hW4' : W3.alloc (.cells #[.int .u64 3, .int .i64 2, .int .i64 5, .int .i64 1, .int .i64 64] 32 (0, 0)) = W4 := hW4
  rw [hW4']
  clear hW4 hW4' hW3 HW3 HW4 k0 k1 k2 k3 k4 kf
  have hW : wrP (newP (Int.toNat 200)) rA = (0, A1 (Int.toNat 200) (rtBytes rA)) := wr0 (by decide) (by decide +kernel)
  have hwf : WF (newP (Int.toNat 200)) := wf_new (by decide)
  have hw1 := wf_wr hwf rA
  rw [hW] at hw1
  have HWA := hid hw1
  have hc := write_any rA D4.out HE4.out.size hwf (by decide) (HT.out.ext HE4.out)
  rw [hW] at hc
  clear hW hwf hw1
  refine hc.mono ?_
  clear hc
  rintro e w5 ⟨rfl, hs⟩
  obtain ⟨x5, d5, b5, kp⟩ := hs.keep
  obtain ⟨hb, hn⟩ := kp _ _ HB4.out HN4.out
  have HB5 := hid hb
  have HN5 := hid hn
  have D5 := hid d5
  have HE5 := hid (HE4.out.below b5)
  clear kp hs hb hn d5 b5 D4 HE4 HB4 HN4
  go_wp2_with fail
  have hc := dcrash_any 0 [] none 0 D5.out HE5.out.size (vec_none _) (by simp) (by simp) (HWA.out.cra 0 []).gd
  rw [cr1] at hc
  refine Calls.mono hc ?_
  clear hc
  rintro e w6 ⟨⟨u, rfl⟩, hs⟩
  obtain ⟨x6, d6, b6, kp⟩ := hs.keep
  obtain ⟨hb, hn⟩ := kp _ _ HB5.out HN5.out
  have HB6 := hid hb
  have HN6 := hid hn
  have D6 := hid d6
  have HE6 := hid (HE5.out.below b6)
  clear kp hs hb hn d6 b6 D5 HE5 HB5 HN5
  go_wp2_with fail
  refine (readA_any (some rA) D6.out (rds_A1 _ (by decide)) (HT.out.ext HE6.out)).mono ?_
  rintro e w7 ⟨rfl, hx⟩
  have HE7 := hid (HE6.out.trans (hx.trans (Ext.alloc w7 (rtO rA))))
  have D7 := hid (D6.out.ext (hx.trans (Ext.alloc w7 (rtO rA))))
  obtain ⟨k0, k1, k2, k3, k4, kf⟩ := blk5 (hx.obj HB6.out)
  have c0 := fun o => (Ext.alloc w7 o).cell k0
  have c1 := fun o => (Ext.alloc w7 o).cell k1
  have c2 := fun o => (Ext.alloc w7 o).cell k2
  have c3 := fun o => (Ext.alloc w7 o).cell k3
  have c4 := fun o => (Ext.alloc w7 o).cell k4
  clear hx D6 HE6 HB6 HN6
  go_wp2_with fail
  refine Calls.mono (rt_any rA _) ?_
  rintro e w8 ⟨rfl, hx⟩
  have D8 := hid (D7.out.ext hx)
  have HE8 := hid (HE7.out.trans hx)
  clear hx k0 k1 k2 k3 k4 kf c0 c1 c2 c3 c4 D7 HE7
  have hrb : rtB rA = true := by decide
  rw [hrb]
  clear hrb
  go_wp2_with fail
  have hc := write_any rt0 D8.out HE8.out.size HWA.out (by decide) (HT.out.ext HE8.out)
  rw [wr_no (by decide)] at hc
  refine Calls.mono hc ?_
  clear hc
  rintro e w9 ⟨rfl, hs⟩
  obtain ⟨x9, d9, b9, kp⟩ := hs.keep
  have HE9 := hid (HE8.out.below b9)
  clear hs d9 b9 kp
  go_wp2
  go_ret
  exact ⟨rfl, HE9.out⟩
theorem Below.at16 {B : Nat} {w w' : World} (h : Below B w w') {b : Nat} {o : Obj} (hb : w.heap[b]? = some o) (hl : b < B) : w'.heap[b]? = some o := (h.block b hl).trans hb
theorem write_at {B : Nat} {w : World} {p : Nat} {x : DX} {s s' : PS} {r : Rt} {c : Nat} (hq : wrP s r = (c, s')) (h : Dk B w p x s) (hB : B ≤ w.heap.size) (hw : WF s) (hl : s.opn.length ≤ 90000) (ht : Tab w) :
    Calls Tryd.prog 8 #[pv p, rtV r] w fun e w' => e = .returned (.int .i64 (c : Int)) ∧ Stp B w p x s' w' := by
  have := write_any r h hB hw hl ht
  rw [hq] at this
  exact this
theorem two_wr (a b : Rt) : ∃ s1 s2 o1 o2, wrP (newP (Int.toNat 1024)) a = (cond (rtB a) 0 1, s1) ∧ RdS s1 o1 ∧ o1 = cond (rtB a) (some a) none ∧ wrP s1 b = (cond (rtB b) 0 1, s2) ∧ RdS s2 o2 ∧ o2 = cond (rtB b) (some b) o1 ∧ WF s1 ∧ s1.opn.length ≤ 90000 := by
  have hn : WF (newP (Int.toNat 1024)) := wf_new (by decide)
  have la := rt_len a
  have lb := rt_len b
  have hwa := wf_wr hn a
  cases ha : rtB a with
  | false =>
    cases hb : rtB b with
    | false => exact ⟨_, _, _, _, wr_no ha, rds_new _, rfl, wr_no hb, rds_new _, rfl, hn, by decide⟩
    | true => exact ⟨_, _, _, _, wr_no ha, rds_new _, rfl, wr0 hb (by have : Int.toNat 1024 = 1024 := rfl; omega), rds_A1 _ hb, rfl, hn, by decide⟩
  | true =>
    have h1 : wrP (newP (Int.toNat 1024)) a = (0, A1 (Int.toNat 1024) (rtBytes a)) := wr0 ha (by have : Int.toNat 1024 = 1024 := rfl; omega)
    rw [h1] at hwa
    cases hb : rtB b with
    | false => exact ⟨_, _, _, _, h1, rds_A1 _ ha, rfl, wr_no hb, rds_A1 _ ha, rfl, hwa, Nat.zero_le _⟩
    | true => exact ⟨_, _, _, _, h1, rds_A1 _ ha, rfl, wr1 hb (by have : Int.toNat 1024 = 1024 := rfl; omega), rds_A2 _ _ hb, rfl, hwa, Nat.zero_le _⟩
set_option maxHeartbeats 8000000 in
theorem rootBack_law (a b : Rt) (w : World) (ht : Tab w) : Calls Tryd.prog 4 #[rtV a, rtV b] w fun e w' => e = .returned (.bool true) ∧ Ext w w' := by
  have HT := hid ht
  obtain ⟨W2, hW2⟩ : ∃ W, (w.alloc (rtO a)).alloc (rtO b) = W := ⟨_, rfl⟩
  have hb1 := (Ext.alloc (w.alloc (rtO a)) (rtO b)).obj (heap_alloc_new w (rtO a))
  have hb2 := heap_alloc_new (w.alloc (rtO a)) (rtO b)
  rw [World.size_alloc] at hb2
  have hE2 := (Ext.alloc w (rtO a)).trans (Ext.alloc (w.alloc (rtO a)) (rtO b))
  rw [hW2] at hb1 hb2 hE2
  have HB1 := hid hb1
  have HB2 := hid hb2
  have HE2 := hid hE2
  obtain ⟨s1, s2, o1, o2, h1, r1, e1, h2, r2, e2, hw1, hl1⟩ := two_wr a b
  obtain ⟨ra, hra⟩ : ∃ r, rtB a = r := ⟨_, rfl⟩
  obtain ⟨rb, hrb⟩ : ∃ r, rtB b = r := ⟨_, rfl⟩
  rw [hra] at h1 e1
  rw [hrb] at h2 e2
  have HRA := hid hra
  have HRB := hid hrb
  have H1 := hid h1
  have R1 := hid r1
  have H2 := hid h2
  have R2 := hid r2
  have HW1 := hid hw1
  have HL1 := hid hl1
  clear ht hb1 hb2 hE2 hra hrb h1 r1 h2 r2 hw1 hl1
  have HN0 : Hid (WF (newP (Int.toNat 1024))) := hid (wf_new (by decide))
  obtain ⟨ga, la, pa, da, sa⟩ := a
  obtain ⟨gb, lb, pb, db, sb⟩ := b
  go_enter Tryd.func4, Tryd.ntmps4
  go_wp2_with fail
  clear hW2
  refine (awake16_any W2 (HT.out.ext HE2.out)).mono ?_
  rintro e w3 ⟨rfl, hx⟩
  have HB31 := hid (hx.obj HB1.out)
  have HB32 := hid (hx.obj HB2.out)
  have HE3 := hid (HE2.out.trans hx)
  have hl1 := (Array.getElem?_eq_some_iff.1 HB31.out).1
  have hl2 := (Array.getElem?_eq_some_iff.1 HB32.out).1
  have HLT1 := hid hl1
  have HLT2 := hid hl2
  obtain ⟨n1, hn1⟩ : ∃ n, w.heap.size = n := ⟨_, rfl⟩
  rw [hn1] at HB31 HB32 HLT1 HLT2
  try rw [hn1]
  obtain ⟨n2, hn2⟩ : ∃ n, n1 + 1 = n := ⟨_, rfl⟩
  rw [hn2] at HB32 HLT2
  try rw [hn2]
  clear hx hl1 hl2 HB1 HB2 HE2 hn1 hn2
  cases ra <;> cases rb
  all_goals
    obtain rfl := e1
    obtain rfl := e2
    simp only [cond_true, cond_false] at H1 R1 H2 R2
    go_wp2_with fail
    refine Calls.mono (dnew_any w3 w3.heap.size (Nat.le_refl _) 1024) ?_
    rintro e w4 ⟨-, h⟩
    obtain ⟨p, x, rfl, d4, x4, -⟩ := h (by decide) (by decide)
    have D4 := hid d4
    have HE4 := hid x4
    clear h d4 x4
    obtain ⟨k0, k1, k2, k3, k4, kf⟩ := blk5 (HE4.out.obj HB31.out)
    go_wp2_with fail
    have hl0 : (newP (Int.toNat 1024)).opn.length ≤ 90000 := Nat.zero_le _
    have hc := write_at H1.out D4.out HE4.out.size HN0.out hl0 (HT.out.ext (HE3.out.trans HE4.out))
    refine hc.mono ?_
    clear hc hl0
    rintro e w5 ⟨rfl, hs⟩
    obtain ⟨x5, d5, b5, -⟩ := hs.keep
    have D5 := hid d5
    have HE5 := hid (HE4.out.below b5)
    clear hs d5 b5 k0 k1 k2 k3 k4 kf D4 HE4
    go_wp2_with fail
    refine Calls.mono (readA_any _ D5.out R1.out (HT.out.ext (HE3.out.trans HE5.out))) ?_
    rintro e w6 ⟨rfl, hx⟩
    have D6 := hid (D5.out.ext hx)
    have HE6 := hid (HE5.out.trans hx)
    obtain ⟨k0, k1, k2, k3, k4, kf⟩ := blk5 (HE6.out.obj HB32.out)
    have c0 := fun o => (Ext.alloc w6 o).cell k0
    have c1 := fun o => (Ext.alloc w6 o).cell k1
    have c2 := fun o => (Ext.alloc w6 o).cell k2
    have c3 := fun o => (Ext.alloc w6 o).cell k3
    have c4 := fun o => (Ext.alloc w6 o).cell k4
    clear hx D5 HE5 k0 k1 k2 k3 k4 kf
    go_wp2_with fail
    clear c0 c1 c2 c3 c4
    have hc := fun o => write_at H2.out (D6.out.ext (Ext.alloc w6 o)) (HE6.out.trans (Ext.alloc w6 o)).size HW1.out HL1.out (HT.out.ext (HE3.out.trans (HE6.out.trans (Ext.alloc w6 o))))
    refine Calls.mono (hc _) ?_
    clear hc
    rintro e w8 ⟨rfl, hs⟩
    obtain ⟨x8, d8, b8, kp⟩ := hs.keep
    obtain ⟨hb, hn⟩ := kp _ _ (heap_alloc_new w6 _) D6.out.new_nin
    have HX8 := hid hb
    have D8 := hid d8
    have HE8 := hid ((HE6.out.trans (Ext.alloc w6 _)).below b8)
    clear hs d8 b8 kp hb hn D6 HE6
    go_wp2_with fail
    refine Calls.mono (readA_any _ D8.out R2.out (HT.out.ext (HE3.out.trans HE8.out))) ?_
    rintro e w9 ⟨rfl, hx⟩
    have HE9 := hid (HE8.out.trans hx)
    have HX9 := hid (hx.obj HX8.out)
    obtain ⟨k0, k1, k2, k3, k4, kf⟩ := blk5 (HE9.out.obj HB31.out)
    have c0 := fun o => (Ext.alloc w9 o).cell k0
    have c1 := fun o => (Ext.alloc w9 o).cell k1
    have c2 := fun o => (Ext.alloc w9 o).cell k2
    have c3 := fun o => (Ext.alloc w9 o).cell k3
    have c4 := fun o => (Ext.alloc w9 o).cell k4
    clear hx D8 HE8 HX8 k0 k1 k2 k3 k4 kf
    go_wp2_with fail
    clear c0 c1 c2 c3 c4
    refine Calls.mono (rt_any ⟨ga, la, pa, da, sa⟩ _) ?_
    rintro e w10 ⟨rfl, hx⟩
    rw [HRA.out]
    have HE10 := hid (HE9.out.trans ((Ext.alloc w9 _).trans hx))
    have HX10 := hid (((Ext.alloc w9 _).trans hx).obj HX9.out)
    have HY10 := hid (hx.obj (heap_alloc_new w9 _))
    obtain ⟨k0, k1, k2, k3, k4, kf⟩ := blk5 (HE10.out.obj HB32.out)
    clear hx HX9 HE9
    go_wp2_with fail
    clear k0 k1 k2 k3 k4 kf
    refine Calls.mono (rt_any ⟨gb, lb, pb, db, sb⟩ _) ?_
    rintro e w11 ⟨rfl, hx⟩
    rw [HRB.out]
    have HE11 := hid (HE10.out.trans hx)
    obtain ⟨a0, a1, a2, a3, a4, af⟩ := blk5 (HE11.out.obj HB31.out)
    obtain ⟨b0, b1, b2, b3, b4, bf⟩ := blk5 (HE11.out.obj HB32.out)
    obtain ⟨i0, i1, i2, i3, i4, jf⟩ := blk5 (hx.obj HX10.out)
    obtain ⟨j0, j1, j2, j3, j4, jf⟩ := blk5 (hx.obj HY10.out)
    clear hx HX10 HY10 HE10 H1 R1 H2 R2
    go_wp2
    go_ret
    exact ⟨rfl, HE3.out.trans HE11.out⟩
end Go.Proofs.YtiblhopjhpflpaaDoor

set_option linter.unusedSimpArgs false
set_option linter.unusedVariables false
set_option maxRecDepth 100000
namespace Go.Proofs.YtiblhopjhpflpaaDoor
open Go Go.RowKit Go.Tum Go.Tum.Crc Go.WideShapes Go.ChangeShapes Go.ChangeAt Go.Deep
/-- What the row's list gives: the table. -/
def tabZ : List Int := [0, 0, 5, 2, 1, 2, 2, 1, 1, 1, 1, 1, 5, 7, 10, 2, 1, 1]
theorem tabZ_at : ∀ i : Fin 18, tabZ.getD i.val 0 = ((manyT.getD i.val 0 : Nat) : Int) := by decide
theorem array5r {α : Type} {cs : Array α} (h : cs.size = 5) : ∃ c0 c1 c2 c3 c4, cs = #[c0, c1, c2, c3, c4] := by
  obtain ⟨l⟩ := cs
  match l, h with
  | [c0, c1, c2, c3, c4], _ => exact ⟨c0, c1, c2, c3, c4, rfl⟩
theorem cellsRoot : Tryd.prog.cellsOf 32 = 5 := by kernel_rfl
theorem cellsCfg : Tryd.prog.cellsOf 30 = 3 := by kernel_rfl
theorem cellsU : Tryd.prog.cellsOf 28 = 1 := by kernel_rfl
theorem cellsI : Tryd.prog.cellsOf 3 = 1 := by kernel_rfl
section
variable {H : Type} {enc : TypeId × Value → H} {w : World} {base : Nat} {held : Bool}
theorem open_root {v : Value} {d : DataW H} {p : List MemPlace} {r : Reach} {b0 : Nat} (hval : Value.okWide Tryd.prog w r b0 32 v) (h : DataW.Trod enc Tryd.prog w base (fun _ => true) held 32 v d p) :
    ∃ x : Rt, v = rtV x := by
  obtain ⟨cs, rfl, hsz⟩ := okWide_struct Tryd.underlying32 hval
  obtain ⟨c0, c1, c2, c3, c4, rfl⟩ := array5r (hsz.trans cellsRoot)
  obtain ⟨fuel, hf⟩ := h
  obtain ⟨y0, y1, y2, n, -, -, h0, h1, h2⟩ := trod_struct3 Tryd.underlying32 hf
  simp only [Value.cells, cellsCfg, cellsU, cellsI, List.drop_zero, List.drop_succ_cons, List.take_succ_cons, List.take_zero] at h0 h1 h2
  obtain ⟨z0, z1, z2, m, -, -, g0, g1, g2⟩ := trod_struct3 Tryd.underlying30 h1
  simp only [cellsI, List.drop_zero, List.drop_succ_cons, List.take_succ_cons, List.take_zero] at g0 g1 g2
  obtain ⟨a0, e0, -, w0⟩ := DataW.trod_int Tryd.underlying28 h0
  obtain ⟨a1, e1, -, w1⟩ := DataW.trod_int Tryd.underlying3 g0
  obtain ⟨a2, e2, -, w2⟩ := DataW.trod_int Tryd.underlying3 g1
  obtain ⟨a3, e3, -, w3⟩ := DataW.trod_int Tryd.underlying3 g2
  obtain ⟨a4, e4, -, w4⟩ := DataW.trod_int Tryd.underlying3 h2
  obtain ⟨u, rfl⟩ := u64_of w0
  simp only [List.cons.injEq, and_true] at e0 e1 e2 e3 e4
  subst e0 e1 e2 e3 e4
  exact ⟨⟨u, a1, a2, a3, a4⟩, rfl⟩
end
end Go.Proofs.YtiblhopjhpflpaaDoor

set_option linter.unusedSimpArgs false
set_option linter.unusedVariables false
set_option maxRecDepth 100000
namespace Go.Proofs.YtiblhopjhpflpaaDoor
open Go Go.RowKit Go.Tum Go.ChangeMaps Go.Tum.Crc

/-- A directory whose root has these bytes, and all of them are sure; perhaps there is another file. -/
def GdD (fs : List (List UInt8 × Nat)) (b : List UInt8) (d : Dir) : Prop :=
  ∃ f, fs[f]? = some (b, b.length) ∧ (d = [(nRoot, f)] ∨ ∃ g y, g ≠ f ∧ fs[g]? = some y ∧ y.1.length ≤ 411 ∧ d = [(nRoot, f), (nFresh, g)])
/-- Behind any crash there is the one, or the other. -/
structure Mid (s : PS) (b c : List UInt8) : Prop where
  room : s.room = 4096
  all : ∀ k, k ≤ s.opn.length → GdD s.files b (dirAt s.sure (s.opn.take k)) ∨ GdD s.files c (dirAt s.sure (s.opn.take k))
structure WS (s : PS) (b : List UInt8) : Prop where
  room : s.room = 4096
  opn : s.opn = []
  down : s.down = false
  dir : GdD s.files b s.sure
theorem crF_all (t : Int) (b : List UInt8) : crF t (b, b.length) = (b, b.length) := by
  have e : (min (max t 0) ((b.length : Int) - b.length)).toNat = 0 := by omega
  unfold crF
  dsimp only
  rw [e]
  simp
theorem crF_le (t : Int) (y : List UInt8 × Nat) : (crF t y).1.length ≤ y.1.length := by
  unfold crF
  simp only [List.length_take]
  omega
theorem GdD.crash {fs : List (List UInt8 × Nat)} {b : List UInt8} {d : Dir} (h : GdD fs b d) (ts : List Int) : GdD (crA d ts fs) b d := by
  obtain ⟨f, hf, rfl | ⟨g, y, hgf, hg, hy, rfl⟩⟩ := h
  · refine ⟨f, ?_, .inl rfl⟩
    simp only [crA]
    rw [List.getElem?_modify, hf]
    simp [crF_all]
  · refine ⟨f, ?_, .inr ⟨g, crF (ts.tail.headD 0) y, hgf, ?_, Nat.le_trans (crF_le _ _) hy, rfl⟩⟩
    · simp only [crA]
      rw [List.getElem?_modify, List.getElem?_modify, hf]
      simp [crF_all, hgf]
    · simp only [crA]
      rw [List.getElem?_modify, List.getElem?_modify, hg]
      simp [Ne.symm hgf]
theorem Mid.crash {s : PS} {b c : List UInt8} (h : Mid s b c) (k : Int) (ts : List Int) : WS (crP s k ts) b ∨ WS (crP s k ts) c := by
  have e : s.opn.take k.toNat = s.opn.take (min k.toNat s.opn.length) := by
    rcases Nat.le_total k.toNat s.opn.length with h | h
    · rw [Nat.min_eq_left h]
    · rw [Nat.min_eq_right h, List.take_of_length_le h, List.take_of_length_le (Nat.le_refl _)]
  have h2 := h.all (min k.toNat s.opn.length) (Nat.min_le_right _ _)
  rw [← e] at h2
  rcases h2 with h2 | h2
  · exact .inl ⟨h.room, rfl, rfl, h2.crash ts⟩
  · exact .inr ⟨h.room, rfl, rfl, h2.crash ts⟩
theorem look_root (d : Dir) (f : Nat) (r : Dir) : look ((nRoot, f) :: r) nRoot = some f := rfl
theorem WS.rds {s : PS} {r : Rt} (h : WS s (rtBytes r)) (hr : rtB r = true) : RdS s (some r) := by
  obtain ⟨f, hf, hd⟩ := h.dir
  have hdir : s.dir = s.sure := by unfold PS.dir dirAt; rw [h.opn]; rfl
  have hl : look s.dir nRoot = some f := by
    rw [hdir]
    rcases hd with hd | ⟨g, y, -, -, -, hd⟩ <;> rw [hd] <;> rfl
  refine ⟨?_, ?_, hr⟩
  · unfold rdE
    rw [h.down, hl]
    rfl
  · unfold rdB
    rw [hl]
    simp [h.down, List.getD_eq_getElem?_getD, hf]
theorem doP_or (s : PS) (act : PS → PS) (hd : s.down = false) : doP s 0 act = (7, { s with down := true }) ∨ ∃ q, doP s 0 act = (0, act { s with fuse := q }) := by
  unfold doP
  rw [hd]
  by_cases hf : s.fuse = 0
  · left; simp [hf]
  · right; exact ⟨_, by rw [if_neg (by simp), if_neg (by simp), if_neg hf]⟩
theorem modify_last (fs : List (List UInt8 × Nat)) (y : List UInt8 × Nat) (g : List UInt8 × Nat → List UInt8 × Nat) : (fs ++ [y]).modify fs.length g = fs ++ [g y] := by
  apply List.ext_getElem?
  intro i
  rw [List.getElem?_modify]
  rcases Nat.lt_trichotomy i fs.length with h | h | h
  · rw [List.getElem?_append_left h, List.getElem?_append_left h]
    have : ¬ fs.length = i := by omega
    simp [this]
  · subst h
    simp
  · rw [List.getElem?_eq_none (by simp; omega), List.getElem?_eq_none (by simp; omega)]
    rfl
/-- What is wanted of a Write. -/
def WrR (b c : List UInt8) (R : Nat × PS) : Prop := R.1 = 7 ∧ Mid R.2 b c ∨ R.1 = 0 ∧ Mid R.2 c c
theorem wr_step {b c : List UInt8} {F : PS → Nat × PS} {l : List (PS → Nat × PS)} {s : PS} (h : (∃ t, F s = (7, t) ∧ Mid t b c) ∨ ∃ t, F s = (0, t) ∧ WrR b c (seqP l t)) : WrR b c (seqP (F :: l) s) := by
  rw [seqP_cons]
  rcases h with ⟨t, e, h⟩ | ⟨t, e, h⟩
  · rw [e, if_neg (by simp)]
    exact .inl ⟨rfl, h⟩
  · rw [e, if_pos rfl]
    exact h
theorem at_f {fs : List (List UInt8 × Nat)} {f : Nat} {y : List UInt8 × Nat} (h : fs[f]? = some y) (z : List UInt8 × Nat) : (fs ++ [z])[f]? = some y := by
  rw [List.getElem?_append_left (List.getElem?_eq_some_iff.1 h).1, h]
theorem at_m (fs : List (List UInt8 × Nat)) (z : List UInt8 × Nat) : (fs ++ [z])[fs.length]? = some z := by simp
theorem flen_of {fs : List (List UInt8 × Nat)} {f : Nat} {y : List UInt8 × Nat} (h : fs[f]? = some y) : flen fs f = y.1.length := by
  unfold flen; simp [List.getD_eq_getElem?_getD, h]

section
variable {fs : List (List UInt8 × Nat)} {b c : List UInt8} {f : Nat}
abbrev cD : Chg := ⟨nFresh, [], none⟩
abbrev cC (m : Nat) : Chg := ⟨[], nFresh, some m⟩
abbrev cR (m : Nat) : Chg := ⟨nFresh, nRoot, some m⟩
/-- From the moment that the new file is made: nobody else has the name. -/
theorem wr_from {D : Dir} {o : List Chg} (hf : fs[f]? = some (b, b.length)) (hb : b.length ≤ 411) (hc : c.length ≤ 411)
    (h0 : dirAt D o = [(nRoot, f)]) (hk : ∀ k, k ≤ o.length → GdD fs b (dirAt D (o.take k))) (hh : ∀ gs, (∀ i, i < fs.length → flen gs i = flen fs i) → sumL gs (D.map Prod.snd ++ newOf o) ≤ 822) (hno : newOf o = [])
    (hcre : ∀ q, creE ⟨4096, fs, D, o, q, false⟩ nFresh = 0) (q : Int) :
    WrR b c (seqP [fun s => creP s nFresh, fun s => appP s nFresh c, fun s => synP s nFresh, fun s => renP s nFresh nRoot, dsyP] ⟨4096, fs, D, o, q, false⟩) := by
  have hm : ∀ z, (fs ++ [z])[fs.length]? = some z := at_m fs
  have hne : fs.length ≠ f := by have := (List.getElem?_eq_some_iff.1 hf).1; omega
  have d1 : dirAt D (o ++ [cC fs.length]) = [(nRoot, f), (nFresh, fs.length)] := by
    unfold dirAt at h0 ⊢
    rw [List.foldl_append, h0]
    rfl
  have d2 : dirAt D (o ++ [cC fs.length] ++ [cR fs.length]) = [(nRoot, fs.length)] := by
    unfold dirAt at d1 ⊢
    rw [List.foldl_append, d1]
    rfl
  have l1 : ∀ (gs : List (List UInt8 × Nat)) (q : Int), look (⟨4096, gs, D, o ++ [cC fs.length], q, false⟩ : PS).dir nFresh = some fs.length := fun gs q => by
    unfold PS.dir
    dsimp only
    rw [d1]
    rfl
  have g0 : ∀ (z : List UInt8 × Nat) k, k ≤ o.length → GdD (fs ++ [z]) b (dirAt D (o.take k)) := by
    intro z k hk1
    obtain ⟨f', hf', h⟩ := hk k hk1
    refine ⟨f', at_f hf' z, ?_⟩
    rcases h with h | ⟨g, y, h1, h2, h3, h4⟩
    · exact .inl h
    · exact .inr ⟨g, y, h1, at_f h2 z, h3, h4⟩
  have g1 : ∀ z : List UInt8 × Nat, z.1.length ≤ 411 → ∀ k, k ≤ (o ++ [cC fs.length]).length → GdD (fs ++ [z]) b (dirAt D ((o ++ [cC fs.length]).take k)) := by
    intro z hz k hk1
    simp only [List.length_append, List.length_singleton] at hk1
    rcases Nat.lt_or_ge o.length k with h | h
    · obtain rfl : k = o.length + 1 := by omega
      rw [List.take_of_length_le (by simp), d1]
      exact ⟨f, at_f hf z, .inr ⟨fs.length, z, hne, hm z, hz, rfl⟩⟩
    · rw [List.take_append_of_le_length h]
      exact g0 z k h
  have g2 : ∀ k, k ≤ (o ++ [cC fs.length] ++ [cR fs.length]).length → GdD (fs ++ [(c, c.length)]) b (dirAt D ((o ++ [cC fs.length] ++ [cR fs.length]).take k)) ∨ GdD (fs ++ [(c, c.length)]) c (dirAt D ((o ++ [cC fs.length] ++ [cR fs.length]).take k)) := by
    intro k hk1
    rw [List.length_append (bs := [cR fs.length])] at hk1
    rcases Nat.lt_or_ge (o ++ [cC fs.length]).length k with h | h
    · obtain rfl : k = (o ++ [cC fs.length]).length + 1 := by simp at hk1 h ⊢; omega
      rw [List.take_of_length_le (by simp), d2]
      exact .inr ⟨fs.length, hm _, .inl rfl⟩
    · rw [List.take_append_of_le_length h]
      exact .inl (g1 (c, c.length) hc k h)
  refine wr_step ?_
  have e : creP ⟨4096, fs, D, o, q, false⟩ nFresh = doP ⟨4096, fs, D, o, q, false⟩ 0 fun s => { s with files := s.files ++ [([], 0)], opn := s.opn ++ [⟨[], nFresh, some s.files.length⟩] } := by unfold creP; rw [hcre]
  rw [e]
  clear e
  rcases doP_or ⟨4096, fs, D, o, q, false⟩ (fun s => { s with files := s.files ++ [([], 0)], opn := s.opn ++ [⟨[], nFresh, some s.files.length⟩] }) rfl with e | ⟨q, e⟩
  · exact .inl ⟨_, e, rfl, fun k hk1 => .inl (hk k hk1)⟩
  refine .inr ⟨_, e, wr_step ?_⟩
  clear e
  dsimp only
  have hE : appE ⟨4096, fs ++ [([], 0)], D, o ++ [cC fs.length], q, false⟩ nFresh c = 0 := by
    unfold appE
    rw [l1, if_neg (by simp), if_neg]
    have : held ⟨4096, fs ++ [([], 0)], D, o ++ [cC fs.length], q, false⟩ = sumL (fs ++ [([], 0)]) (D.map Prod.snd ++ newOf o) + flen (fs ++ [([], 0)]) fs.length := by
      have e1 : newOf (o ++ [cC fs.length]) = newOf o ++ [fs.length] := by unfold newOf; rw [List.filterMap_append]; rfl
      unfold held cntd
      dsimp only
      rw [e1, ← List.append_assoc]
      unfold sumL
      rw [List.map_append, List.sum_append]
      simp
    have h1 := hh (fs ++ [([], 0)]) (fun i hi => by unfold flen; simp [List.getD_eq_getElem?_getD, List.getElem?_append_left hi])
    have h2 : flen (fs ++ [([], 0)]) fs.length = 0 := by rw [flen_of (hm _)]; rfl
    rw [this]
    show ¬ 4096 < _
    omega
  have e : appP ⟨4096, fs ++ [([], 0)], D, o ++ [cC fs.length], q, false⟩ nFresh c = doP ⟨4096, fs ++ [([], 0)], D, o ++ [cC fs.length], q, false⟩ 0 fun s => { s with files := setF s.files (look s.dir nFresh) fun x => (x.1 ++ c, x.2) } := by unfold appP; rw [hE]
  rw [e]
  clear e hE
  rcases doP_or ⟨4096, fs ++ [([], 0)], D, o ++ [cC fs.length], q, false⟩ (fun s => { s with files := setF s.files (look s.dir nFresh) fun x => (x.1 ++ c, x.2) }) rfl with e | ⟨q, e⟩
  · exact .inl ⟨_, e, rfl, fun k hk1 => .inl (g1 ([], 0) (by simp) k hk1)⟩
  refine .inr ⟨_, e, wr_step ?_⟩
  clear e
  dsimp only
  rw [l1]
  unfold setF
  dsimp only
  rw [modify_last]
  dsimp only
  rw [List.nil_append]
  have e : synP ⟨4096, fs ++ [(c, 0)], D, o ++ [cC fs.length], q, false⟩ nFresh = doP ⟨4096, fs ++ [(c, 0)], D, o ++ [cC fs.length], q, false⟩ 0 fun s => { s with files := setF s.files (look s.dir nFresh) fun x => (x.1, x.1.length) } := by unfold synP missP; rw [l1]; rfl
  rw [e]
  clear e
  rcases doP_or ⟨4096, fs ++ [(c, 0)], D, o ++ [cC fs.length], q, false⟩ (fun s => { s with files := setF s.files (look s.dir nFresh) fun x => (x.1, x.1.length) }) rfl with e | ⟨q, e⟩
  · exact .inl ⟨_, e, rfl, fun k hk1 => .inl (g1 (c, 0) hc k hk1)⟩
  refine .inr ⟨_, e, wr_step ?_⟩
  clear e
  dsimp only
  rw [l1]
  unfold setF
  dsimp only
  rw [modify_last]
  dsimp only
  have e : renP ⟨4096, fs ++ [(c, c.length)], D, o ++ [cC fs.length], q, false⟩ nFresh nRoot = doP ⟨4096, fs ++ [(c, c.length)], D, o ++ [cC fs.length], q, false⟩ 0 fun s => { s with opn := s.opn ++ [⟨nFresh, nRoot, look s.dir nFresh⟩] } := by
    have hE : renE ⟨4096, fs ++ [(c, c.length)], D, o ++ [cC fs.length], q, false⟩ nFresh nRoot = 0 := by unfold renE; rw [l1]; rfl
    unfold renP; rw [hE]
  rw [e]
  clear e
  rcases doP_or ⟨4096, fs ++ [(c, c.length)], D, o ++ [cC fs.length], q, false⟩ (fun s => { s with opn := s.opn ++ [⟨nFresh, nRoot, look s.dir nFresh⟩] }) rfl with e | ⟨q, e⟩
  · exact .inl ⟨_, e, rfl, fun k hk1 => .inl (g1 (c, c.length) hc k hk1)⟩
  refine .inr ⟨_, e, wr_step ?_⟩
  clear e
  dsimp only
  rw [l1]
  unfold dsyP
  rcases doP_or ⟨4096, fs ++ [(c, c.length)], D, o ++ [cC fs.length] ++ [cR fs.length], q, false⟩ (fun s => { s with sure := s.dir, opn := [] }) rfl with e | ⟨q, e⟩
  · exact .inl ⟨_, e, rfl, g2⟩
  refine .inr ⟨_, e, .inr ⟨rfl, rfl, ?_⟩⟩
  clear e
  intro k hk1
  have : k = 0 := Nat.le_zero.1 hk1
  subst this
  refine .inl ?_
  show GdD (fs ++ [(c, c.length)]) c (dirAt D (o ++ [cC fs.length] ++ [cR fs.length]))
  rw [d2]
  exact ⟨fs.length, hm _, .inl rfl⟩
end
theorem wr_whole {s : PS} {b : List UInt8} {r : Rt} (h : WS s b) (hb : b.length ≤ 411) (hr : rtB r = true) : WrR b (rtBytes r) (wrP s r) := by
  have hc := (rt_len r).1
  unfold wrP
  rw [if_pos hr]
  obtain ⟨c, hcc⟩ : ∃ c, rtBytes r = c := ⟨_, rfl⟩
  rw [hcc] at hc ⊢
  obtain ⟨room, fs, D, o, q, dn⟩ := s
  obtain ⟨h1, h2, h3, f, hf, hd⟩ := h
  dsimp only at h1 h2 h3 hf hd
  subst h1 h2 h3
  unfold wrOps
  rcases hd with rfl | ⟨g, y, hgf, hg, hy, rfl⟩
  · refine wr_step (.inr ⟨⟨4096, fs, [(nRoot, f)], [], q, false⟩, rfl, ?_⟩)
    refine wr_from hf hb hc rfl (fun k hk => ?_) (fun gs hgs => ?_) rfl (fun q => rfl) q
    · have : k = 0 := by simpa using hk
      subst this
      exact ⟨f, hf, .inl rfl⟩
    · have := hgs f (List.getElem?_eq_some_iff.1 hf).1
      rw [flen_of hf] at this
      show flen gs f + 0 ≤ 822
      simp only at this
      omega
  · refine wr_step ?_
    have hx : ∀ R : Nat × PS, delP ⟨4096, fs, [(nRoot, f), (nFresh, g)], [], q, false⟩ nFresh = R → R.1 ≠ 5 → delT nFresh ⟨4096, fs, [(nRoot, f), (nFresh, g)], [], q, false⟩ = R := fun R e hR => by
      unfold delT
      rw [e, if_neg hR]
    have e0 : delP ⟨4096, fs, [(nRoot, f), (nFresh, g)], [], q, false⟩ nFresh = doP ⟨4096, fs, [(nRoot, f), (nFresh, g)], [], q, false⟩ 0 fun s => { s with opn := s.opn ++ [⟨nFresh, [], none⟩] } := rfl
    rcases doP_or ⟨4096, fs, [(nRoot, f), (nFresh, g)], [], q, false⟩ (fun s => { s with opn := s.opn ++ [⟨nFresh, [], none⟩] }) rfl with e | ⟨q, e⟩
    · refine .inl ⟨_, hx _ (e0.trans e) (by simp), rfl, fun k hk => ?_⟩
      have : k = 0 := by simpa using hk
      subst this
      exact .inl ⟨f, hf, .inr ⟨g, y, hgf, hg, hy, rfl⟩⟩
    refine .inr ⟨_, hx _ (e0.trans e) (by simp), ?_⟩
    clear e e0 hx
    dsimp only
    refine wr_from hf hb hc rfl (fun k hk => ?_) (fun gs hgs => ?_) rfl (fun q => rfl) q
    · match k, hk with
      | 0, _ => exact ⟨f, hf, .inr ⟨g, y, hgf, hg, hy, rfl⟩⟩
      | 1, _ => exact ⟨f, hf, .inl rfl⟩
      | k + 2, hk => simp at hk
    · have h1 := hgs f (List.getElem?_eq_some_iff.1 hf).1
      have h2 := hgs g (List.getElem?_eq_some_iff.1 hg).1
      rw [flen_of hf] at h1
      rw [flen_of hg] at h2
      show flen gs f + (flen gs g + 0) ≤ 822
      simp only at h1
      omega
theorem WS.fus {s : PS} {b : List UInt8} (h : WS s b) (n : Int) : WS (fusP s n) b := ⟨h.room, h.opn, h.down, h.dir⟩
/-- One act. -/
theorem whole_act {s : PS} {a r : Rt} (h : WS s (rtBytes a)) (ha : rtB a = true) (hr : rtB r = true) (n k : Int) (ts : List Int) :
    ∃ e s1 z, wrP (fusP s n) r = (e, s1) ∧ (e = 0 ∨ e = 7) ∧ WS (crP s1 k ts) (rtBytes z) ∧ rtB z = true ∧ (e = 0 → z = r) ∧ (z = a ∨ z = r) := by
  have hw := wr_whole (h.fus n) (rt_len a).1 hr
  obtain ⟨R, hR⟩ : ∃ R, wrP (fusP s n) r = R := ⟨_, rfl⟩
  rw [hR] at hw
  obtain ⟨e, s1⟩ := R
  rcases hw with ⟨e7, hm⟩ | ⟨e0, hm⟩
  · dsimp only at e7 hm
    rcases hm.crash k ts with hc | hc
    · exact ⟨e, s1, a, hR, .inr e7, hc, ha, fun e0 => by omega, .inl rfl⟩
    · exact ⟨e, s1, r, hR, .inr e7, hc, hr, fun _ => rfl, .inr rfl⟩
  · dsimp only at e0 hm
    refine ⟨e, s1, r, hR, .inl e0, ?_, hr, fun _ => rfl, .inr rfl⟩
    rcases hm.crash k ts with hc | hc <;> exact hc
theorem whole_first {r : Rt} (h : rtB r = true) : ∃ s, wrP (newP (Int.toNat 4096)) r = (0, s) ∧ WS s (rtBytes r) := by
  refine ⟨A1 4096 (rtBytes r), wr0 h (by have := (rt_len r).1; have : Int.toNat 4096 = 4096 := rfl; omega), rfl, rfl, rfl, 0, rfl, .inl rfl⟩
end Go.Proofs.YtiblhopjhpflpaaDoor

set_option linter.unusedSimpArgs false
set_option linter.unusedVariables false
namespace Go.Proofs.YtiblhopjhpflpaaDoor
open Go Go.RowKit Go.Tum Go.ChangeMaps Go.WideShapes Go.ChangeShapes

/-- An act of the laws. -/
structure At where
  dn : Int
  n : Int
  name : Nm
  to : Nm
  b : List UInt8
  ts : List Int
/-- .. with where its slices lie. -/
abbrev AtV := At × Value × Value
abbrev acells (p : AtV) : List Value := [.int .i64 p.1.dn, .int .i64 p.1.n, vN p.1.name, vN p.1.to, p.2.1, p.2.2]
def i64 (z : Int) : Prop := -9223372036854775808 ≤ z ∧ z ≤ 9223372036854775807
structure AtOk (w : World) (p : AtV) : Prop where
  name : p.1.name.length ≤ maxLen
  to : p.1.to.length ≤ maxLen
  n : i64 p.1.n
  b : Byt w p.2.1 p.1.b
  t : Vec Go.Tum.iv w p.2.2 p.1.ts
  ts : ∀ t ∈ p.1.ts, i64 t
theorem AtOk.ext {w w' : World} {p : AtV} (h : AtOk w p) (k : Ext w w') : AtOk w' p := ⟨h.name, h.to, h.n, h.b.ext k, h.t.ext k, h.ts⟩
/-- The slice v holds the acts m. -/
def Acts (w : World) (v : Value) (m : List AtV) : Prop := RowsOf w 6 v acells m ∧ ∀ p ∈ m, AtOk w p

theorem i64_of {n : Int} (h : (Lit.int .i64 n).wf = true) : i64 n := by
  simpa [i64, Lit.wf, IntKind.min, IntKind.max, IntKind.signed, IntKind.bits] using h
theorem vec_of_row_i64 {w : World} {a : Option Addr} {len cap : Nat} {zs : List Int}
    (h : (a = none ∧ len = 0 ∧ cap = 0 ∧ zs = []) ∨
      ∃ x, a = some x ∧ len ≤ cap ∧ cap ≤ maxLen ∧ zs.length = cap ∧ (∀ i, i < zs.length → w.cell? (x.add i) = some (.int .i64 (zs.getD i 0))) ∧ ∀ n ∈ zs, (Lit.int .i64 n).wf = true) :
    ∃ l : List Int, Vec Go.Tum.iv w (.slice a len cap) l ∧ ∀ t ∈ l, i64 t := by
  rcases h with ⟨rfl, rfl, rfl, rfl⟩ | ⟨x, rfl, hlc, hcm, hz, hc, hw⟩
  · exact ⟨[], Sl.nil w 1, fun t h => absurd h (by simp)⟩
  · refine ⟨zs.take len, ?_, fun t ht => i64_of (hw t (List.mem_of_mem_take ht))⟩
    have hlen : (zs.take len).length = len := by simp; omega
    unfold Vec
    rw [hlen]
    refine ⟨by simp; omega, some x, cap, rfl, hlc, hcm, (fun h => by cases h), fun a ha j u hu => ?_⟩
    cases ha
    have hj : j < len := by
      rcases Nat.lt_or_ge j len with h | h
      · exact h
      · rw [List.getElem?_eq_none (by simp; omega)] at hu; cases hu
    have hjz : j < zs.length := by omega
    have h1 := hc j hjz
    rw [List.getElem?_map, List.getElem?_take_of_lt hj, List.getElem?_eq_getElem hjz] at hu
    simp at hu
    rw [h1, ← hu]
    simp [List.getD_eq_getElem?_getD, hjz]

section
variable {H : Type} {enc : TypeId × Value → H} {w : World} {base : Nat} {held : Bool}
theorem nm_of (s : ByteArray) : s = str s.data.toList := by
  apply ByteArray.ext
  simp [str]
theorem nm_len {s : ByteArray} (h : s.size ≤ maxLen) : s.data.toList.length ≤ maxLen := by
  have : s.data.toList.length = s.size := Array.length_toList
  rw [this]; exact h
set_option maxRecDepth 100000 in
theorem open_ivs {v : Value} {fuel : Nat} {x : DataW H × List MemPlace} (h : DataW.trod enc Tryd.prog w base (fun _ => true) held fuel 34 [v] = some x) :
    ∃ l : List Int, Vec Go.Tum.iv w v l ∧ ∀ t ∈ l, i64 t := by
  rcases open_ints Tryd.underlying34 Tryd.underlying3 (by kernel_rfl) h with ⟨h0, _⟩ | ⟨a, len, cap, zs, hcs, hb, hl, hm, hz, hx, hcell, hw⟩
  · simp at h0; subst h0
    exact vec_of_row_i64 (.inl ⟨rfl, rfl, rfl, rfl⟩)
  · simp at hcs; subst hcs
    exact vec_of_row_i64 (.inr ⟨a, rfl, hl, hm, by simpa using hz, hcell, hw⟩)
end

theorem Dk.low {B : Nat} {w : World} {p : Nat} {x : DX} {s : PS} (h : Dk B w p x s) : ∀ q ∈ x.blk p, B ≤ q := by
  intro q hq
  unfold DX.blk at hq
  simp only [List.mem_cons, List.mem_append, List.mem_flatMap, List.mem_map] at hq
  rcases hq with rfl | rfl | rfl | (hq | ⟨z, hz, rfl⟩) | ⟨z, hz, hq⟩
  · exact h.lo.1
  · exact h.lo.2.1
  · exact h.lo.2.2.1
  · rcases h.op.2 with ⟨hv, -⟩ | ⟨g, cap, cur, hv, hb, -⟩
    · rw [hv] at hq; simp [oB, Value.ownBlock] at hq
    · rw [hv] at hq; simp [oB, Value.ownBlock] at hq; subst hq; exact hb
  · obtain ⟨i, hi, rfl⟩ := List.mem_iff_getElem.1 hz
    have := h.lo.2.2.2 i (by rw [← h.fn]; exact hi)
    simpa [DX.bk, List.getD_eq_getElem?_getD, hi] using this
  · obtain ⟨i, hi, rfl⟩ := List.mem_iff_getElem.1 hz
    have h2 := (h.fi i (by rw [← h.fn]; exact hi)).2
    have e : x.sv i = x.bl[i].2 := by simp [DX.sv, List.getD_eq_getElem?_getD, hi]
    rw [e] at h2
    rcases h2.2 with hv | ⟨g, cap, cur, hv, hb, -⟩
    · rw [hv.1] at hq; simp [oB, Value.ownBlock] at hq
    · rw [hv] at hq; simp [oB, Value.ownBlock] at hq; subst hq; exact hb

/-! ### large -/
def bigA (p : AtV) : Bool := decide (1000 < p.1.b.length) || (decide (1000 < p.1.name.length + p.1.to.length) || decide (1000 < p.1.ts.length))
def largeA (m : List AtV) : Bool := decide (40 < m.length) || m.any bigA
end Go.Proofs.YtiblhopjhpflpaaDoor

set_option linter.unusedSimpArgs false
set_option linter.unusedVariables false
set_option maxRecDepth 100000
namespace Go.Proofs.YtiblhopjhpflpaaDoor
open Go Go.RowKit Go.Tum Go.ChangeMaps Go.WideShapes Go.ChangeShapes Go.Deep

/-- An act of layer 16's laws. -/
structure Ar where
  dn : Int
  n : Int
  r : Rt
  ts : List Int
  name : Nm
  b : List UInt8
/-- .. with where its slices lie. -/
abbrev ArV := Ar × Value × Value
abbrev racells (p : ArV) : List Value := [.int .i64 p.1.dn, .int .i64 p.1.n, uv p.1.r.gen, .int .i64 p.1.r.lanes, .int .i64 p.1.r.pay, .int .i64 p.1.r.del, .int .i64 p.1.r.seg, p.2.1, vN p.1.name, p.2.2]
structure ArOk (w : World) (p : ArV) : Prop where
  dn : i64 p.1.dn
  n : i64 p.1.n
  t : Vec Go.Tum.iv w p.2.1 p.1.ts
  ts : ∀ t ∈ p.1.ts, i64 t
  name : p.1.name.length ≤ maxLen
  b : Byt w p.2.2 p.1.b
theorem ArOk.ext {w w' : World} {p : ArV} (h : ArOk w p) (k : Ext w w') : ArOk w' p := ⟨h.dn, h.n, h.t.ext k, h.ts, h.name, h.b.ext k⟩
/-- The slice v holds the acts m. -/
def ActsR (w : World) (v : Value) (m : List ArV) : Prop := RowsOf w 10 v racells m ∧ ∀ p ∈ m, ArOk w p
theorem ActsR.ext {w w' : World} {v : Value} {m : List ArV} (h : ActsR w v m) (k : Ext w w') : ActsR w' v m := ⟨h.1.ext k, fun p hp => (h.2 p hp).ext k⟩
theorem cellsActR : Tryd.prog.cellsOf 37 = 10 := by kernel_rfl
theorem cellsIs : Tryd.prog.cellsOf 34 = 1 := by kernel_rfl
theorem cellsBs : Tryd.prog.cellsOf 35 = 1 := by kernel_rfl
theorem cellsSt : Tryd.prog.cellsOf 9 = 1 := by kernel_rfl
theorem list10 {α : Type} {l : List α} (h : l.length = 10) : ∃ a b c d e f g i j k, l = [a, b, c, d, e, f, g, i, j, k] := by
  match l, h with
  | [a, b, c, d, e, f, g, i, j, k], _ => exact ⟨a, b, c, d, e, f, g, i, j, k, rfl⟩
section
variable {H : Type} {enc : TypeId × Value → H} {w : World} {base : Nat} {held : Bool}
theorem open_root5 {fuel : Nat} {c0 c1 c2 c3 c4 : Value} {x : DataW H × List MemPlace} (hf : DataW.trod enc Tryd.prog w base (fun _ => true) held fuel 32 [c0, c1, c2, c3, c4] = some x) :
    ∃ x : Rt, [c0, c1, c2, c3, c4] = [uv x.gen, .int .i64 x.lanes, .int .i64 x.pay, .int .i64 x.del, .int .i64 x.seg] := by
  obtain ⟨y0, y1, y2, n, -, -, h0, h1, h2⟩ := trod_struct3 Tryd.underlying32 hf
  simp only [cellsCfg, cellsU, cellsI, List.drop_zero, List.drop_succ_cons, List.take_succ_cons, List.take_zero] at h0 h1 h2
  obtain ⟨z0, z1, z2, m, -, -, g0, g1, g2⟩ := trod_struct3 Tryd.underlying30 h1
  simp only [cellsI, List.drop_zero, List.drop_succ_cons, List.take_succ_cons, List.take_zero] at g0 g1 g2
  obtain ⟨a0, e0, -, w0⟩ := DataW.trod_int Tryd.underlying28 h0
  obtain ⟨a1, e1, -, w1⟩ := DataW.trod_int Tryd.underlying3 g0
  obtain ⟨a2, e2, -, w2⟩ := DataW.trod_int Tryd.underlying3 g1
  obtain ⟨a3, e3, -, w3⟩ := DataW.trod_int Tryd.underlying3 g2
  obtain ⟨a4, e4, -, w4⟩ := DataW.trod_int Tryd.underlying3 h2
  obtain ⟨u, rfl⟩ := u64_of w0
  simp only [List.cons.injEq, and_true] at e0 e1 e2 e3 e4
  subst e0 e1 e2 e3 e4
  exact ⟨⟨u, a1, a2, a3, a4⟩, rfl⟩
theorem open_actsR {v : Value} {d : DataW H} {p : List MemPlace} {r : Reach} {b0 : Nat} (hval : Value.okWide Tryd.prog w r b0 22 v) (h : DataW.Trod enc Tryd.prog w base (fun _ => true) held 22 v d p) :
    ∃ m : List ArV, ActsR w v m := by
  obtain ⟨a, len, cap, rfl⟩ := okWide_slice Tryd.underlying22 hval
  obtain ⟨fuel, hf⟩ := h
  replace hf : DataW.trod enc Tryd.prog w base (fun _ => true) held fuel 22 [.slice a len cap] = some (d, p) := hf
  rcases open_slice Tryd.underlying22 hf with ⟨h0, _⟩ | ⟨a, len, cap, m, n0, D, Pl, hcs, hb, hl, hm, hmm, hx, hi⟩
  · simp at h0
    obtain ⟨rfl, rfl, rfl⟩ := h0
    exact ⟨[], RowsOf.nil _ _ _, fun p h => absurd h (by simp)⟩
  · simp at hcs
    obtain ⟨rfl, rfl, rfl⟩ := hcs
    simp at hmm
    subst hmm
    have hrow : ∀ i, i < len → ∃ q : ArV, ArOk w q ∧ ∀ j u, (racells q)[j]? = some u → w.cell? (a.add (i * 10 + j)) = some u := by
      intro i hil
      obtain ⟨cs', hc, htr⟩ := hi i (by omega)
      rw [cellsActR] at hc
      obtain ⟨_, hcl, hat⟩ := World.cells?_some hc
      obtain ⟨ys, n', -, -, -, hyl, hfj⟩ := DataW.trod_struct Tryd.underlying37 htr
      obtain ⟨c0, c1, c2, c3, c4, c5, c6, c7, c8, c9, rfl⟩ := list10 hcl
      have hcell : ∀ j u, [c0, c1, c2, c3, c4, c5, c6, c7, c8, c9][j]? = some u → w.cell? (a.add (i * 10 + j)) = some u := by
        intro j u hu
        have hj : j < 10 := (List.getElem?_eq_some_iff.1 hu).1
        have h1 := hat j hj
        rw [Go.Deep.add_add] at h1
        rw [h1, hu]
      have t0 : DataW.trod enc Tryd.prog w base (fun _ => true) held n' 3 (([c0, c1, c2, c3, c4, c5, c6, c7, c8, c9].drop 0).take (Tryd.prog.cellsOf 3)) = ys[0]? := hfj 0 _ rfl
      have t1 : DataW.trod enc Tryd.prog w base (fun _ => true) held n' 3 (([c0, c1, c2, c3, c4, c5, c6, c7, c8, c9].drop 1).take (Tryd.prog.cellsOf 3)) = ys[1]? := hfj 1 _ rfl
      have t2 : DataW.trod enc Tryd.prog w base (fun _ => true) held n' 32 (([c0, c1, c2, c3, c4, c5, c6, c7, c8, c9].drop 2).take (Tryd.prog.cellsOf 32)) = ys[2]? := hfj 2 _ rfl
      have t3 : DataW.trod enc Tryd.prog w base (fun _ => true) held n' 34 (([c0, c1, c2, c3, c4, c5, c6, c7, c8, c9].drop 7).take (Tryd.prog.cellsOf 34)) = ys[3]? := hfj 3 _ rfl
      have t4 : DataW.trod enc Tryd.prog w base (fun _ => true) held n' 9 (([c0, c1, c2, c3, c4, c5, c6, c7, c8, c9].drop 8).take (Tryd.prog.cellsOf 9)) = ys[4]? := hfj 4 _ rfl
      have t5 : DataW.trod enc Tryd.prog w base (fun _ => true) held n' 35 (([c0, c1, c2, c3, c4, c5, c6, c7, c8, c9].drop 9).take (Tryd.prog.cellsOf 35)) = ys[5]? := hfj 5 _ rfl
      clear hfj
      have hyl : ys.length = 6 := hyl
      rw [cellsI] at t0
      rw [cellsI] at t1
      rw [cellsRoot] at t2
      rw [cellsIs] at t3
      rw [cellsSt] at t4
      rw [cellsBs] at t5
      have g0 : DataW.trod enc Tryd.prog w base (fun _ => true) held n' 3 [c0] = _ := t0.trans (List.getElem?_eq_getElem (show 0 < ys.length by omega))
      have g1 : DataW.trod enc Tryd.prog w base (fun _ => true) held n' 3 [c1] = _ := t1.trans (List.getElem?_eq_getElem (show 1 < ys.length by omega))
      have g2 : DataW.trod enc Tryd.prog w base (fun _ => true) held n' 32 [c2, c3, c4, c5, c6] = _ := t2.trans (List.getElem?_eq_getElem (show 2 < ys.length by omega))
      have g3 : DataW.trod enc Tryd.prog w base (fun _ => true) held n' 34 [c7] = _ := t3.trans (List.getElem?_eq_getElem (show 3 < ys.length by omega))
      have g4 : DataW.trod enc Tryd.prog w base (fun _ => true) held n' 9 [c8] = _ := t4.trans (List.getElem?_eq_getElem (show 4 < ys.length by omega))
      have g5 : DataW.trod enc Tryd.prog w base (fun _ => true) held n' 35 [c9] = _ := t5.trans (List.getElem?_eq_getElem (show 5 < ys.length by omega))
      clear t0 t1 t2 t3 t4 t5
      obtain ⟨z0, e0, -, w0⟩ := DataW.trod_int Tryd.underlying3 g0
      obtain ⟨z1, e1, -, w1⟩ := DataW.trod_int Tryd.underlying3 g1
      obtain ⟨rr, er⟩ := open_root5 g2
      obtain ⟨l7, h7, i7⟩ := open_ivs g3
      obtain ⟨s8, e8, -, hs8⟩ := DataW.trod_string Tryd.underlying9 g4
      obtain ⟨l9, h9⟩ := open_byt_trod Tryd.underlying35 Tryd.underlying5 (by kernel_rfl) g5
      simp only [List.cons.injEq, and_true] at e0 e1 er e8
      obtain ⟨er2, er3, er4, er5, er6⟩ := er
      subst e0 e1 er2 er3 er4 er5 er6 e8
      rw [nm_of s8] at hcell
      refine ⟨(⟨z0, z1, rr, l7, s8.data.toList, l9⟩, c7, c9), ⟨i64_of w0, i64_of w1, h7, i7, nm_len hs8, h9⟩, hcell⟩
    obtain ⟨q, hq, hQ⟩ := list_of len hrow
    refine ⟨q, RowsOf.mk' hq hl hm (by decide) (fun _ _ => rfl) (fun i h j u hu => (hQ i h).2 j u hu), ?_⟩
    intro p hp
    obtain ⟨i, hil, rfl⟩ := List.mem_iff_getElem.1 hp
    exact (hQ i hil).1
end
end Go.Proofs.YtiblhopjhpflpaaDoor

set_option linter.unusedSimpArgs false
set_option linter.unusedVariables false
set_option maxRecDepth 100000
namespace Go.Proofs.YtiblhopjhpflpaaDoor
open Go Go.RowKit Go.Tum Go.ChangeMaps Go.Tum.Crc

abbrev arO (p : ArV) : Obj := .cells #[.int .i64 p.1.dn, .int .i64 p.1.n, uv p.1.r.gen, .int .i64 p.1.r.lanes, .int .i64 p.1.r.pay, .int .i64 p.1.r.del, .int .i64 p.1.r.seg, p.2.1, vN p.1.name, p.2.2] 37 (0, 0)
theorem blk10 {w : World} {b : Nat} {v0 v1 v2 v3 v4 v5 v6 v7 v8 v9 : Value} {ty : TypeId} (h : w.heap[b]? = some (.cells #[v0, v1, v2, v3, v4, v5, v6, v7, v8, v9] ty (0, 0))) :
    w.cell? ⟨b, 0, none⟩ = some v0 ∧ w.cell? ⟨b, 1, none⟩ = some v1 ∧ w.cell? ⟨b, 2, none⟩ = some v2 ∧ w.cell? ⟨b, 3, none⟩ = some v3 ∧ w.cell? ⟨b, 4, none⟩ = some v4 ∧ w.cell? ⟨b, 5, none⟩ = some v5 ∧ w.cell? ⟨b, 6, none⟩ = some v6 ∧ w.cell? ⟨b, 7, none⟩ = some v7 ∧ w.cell? ⟨b, 8, none⟩ = some v8 ∧ w.cell? ⟨b, 9, none⟩ = some v9 := by
  refine ⟨?_, ?_, ?_, ?_, ?_, ?_, ?_, ?_, ?_, ?_⟩ <;> (rw [cell_of_row _ _ _ _ _ _ h]; rfl)
theorem lowR_of {w : World} {a : Addr} {n c : Nat} {ts : List Int} (h : Vec Go.Tum.iv w (.slice (some a) n c) ts) (hne : ts ≠ []) : a.block < w.heap.size := by
  obtain ⟨-, -, -, -, hc⟩ := h.opens
  have hl : 0 < ts.length := List.length_pos_iff.2 hne
  have h1 := World.block_lt_of_cell? w _ (hc a rfl 0 hl)
  have hb : (a.add 0).block = a.block := by unfold Addr.add; split <;> rfl
  omega
/-- An act of the row, and its cells. -/
theorem ractR_at {w wr : World} {m : List ArV} {a0 : Addr} {cap : Nat} (hA : ActsR w (.slice (some a0) m.length cap) m) (E : Ext w wr) (k : Nat) (hlt : k < m.length) :
    ∃ (dn n : Int) (gen : UInt64) (la pa de se : Int) (ts : List Int) (name : Nm) (b : List UInt8) (vo : Option Addr) (vc : Nat) (uo : Option Addr) (uc : Nat),
      ArOk w (⟨dn, n, ⟨gen, la, pa, de, se⟩, ts, name, b⟩, .slice vo ts.length vc, .slice uo b.length uc) ∧ m[k] = (⟨dn, n, ⟨gen, la, pa, de, se⟩, ts, name, b⟩, .slice vo ts.length vc, .slice uo b.length uc) ∧
      wr.cell? (a0.add (k * 10)) = some (.int .i64 dn) ∧ wr.cell? ⟨(a0.add (k * 10)).block, (a0.add (k * 10)).off + 1, none⟩ = some (.int .i64 n) ∧
      wr.cell? ⟨(a0.add (k * 10)).block, (a0.add (k * 10)).off + 2, none⟩ = some (uv gen) ∧ wr.cell? ⟨(a0.add (k * 10)).block, (a0.add (k * 10)).off + 3, none⟩ = some (.int .i64 la) ∧
      wr.cell? ⟨(a0.add (k * 10)).block, (a0.add (k * 10)).off + 4, none⟩ = some (.int .i64 pa) ∧ wr.cell? ⟨(a0.add (k * 10)).block, (a0.add (k * 10)).off + 5, none⟩ = some (.int .i64 de) ∧
      wr.cell? ⟨(a0.add (k * 10)).block, (a0.add (k * 10)).off + 6, none⟩ = some (.int .i64 se) ∧ wr.cell? ⟨(a0.add (k * 10)).block, (a0.add (k * 10)).off + 7, none⟩ = some (.slice vo ts.length vc) ∧
      wr.cell? ⟨(a0.add (k * 10)).block, (a0.add (k * 10)).off + 8, none⟩ = some (vN name) ∧ wr.cell? ⟨(a0.add (k * 10)).block, (a0.add (k * 10)).off + 9, none⟩ = some (.slice uo b.length uc) := by
  obtain ⟨hrow, hok⟩ := hA
  obtain ⟨-, -, -, -, hc⟩ := hrow.opens
  have c0 := cell_first (E.cell (hc a0 rfl k hlt 0 _ rfl))
  have c1 := cell_next (E.cell (hc a0 rfl k hlt 1 _ rfl)) (by decide)
  have c2 := cell_next (E.cell (hc a0 rfl k hlt 2 _ rfl)) (by decide)
  have c3 := cell_next (E.cell (hc a0 rfl k hlt 3 _ rfl)) (by decide)
  have c4 := cell_next (E.cell (hc a0 rfl k hlt 4 _ rfl)) (by decide)
  have c5 := cell_next (E.cell (hc a0 rfl k hlt 5 _ rfl)) (by decide)
  have c6 := cell_next (E.cell (hc a0 rfl k hlt 6 _ rfl)) (by decide)
  have c7 := cell_next (E.cell (hc a0 rfl k hlt 7 _ rfl)) (by decide)
  have c8 := cell_next (E.cell (hc a0 rfl k hlt 8 _ rfl)) (by decide)
  have c9 := cell_next (E.cell (hc a0 rfl k hlt 9 _ rfl)) (by decide)
  have ho := hok m[k] (List.getElem_mem hlt)
  obtain ⟨q, hq⟩ : ∃ q, m[k] = q := ⟨_, rfl⟩
  obtain ⟨⟨dn, n, ⟨gen, la, pa, de, se⟩, ts, name, b⟩, u, v⟩ := q
  rw [hq] at c0 c1 c2 c3 c4 c5 c6 c7 c8 c9 ho
  have h5 := ho.t
  have h6 := ho.b
  dsimp only at c0 c1 c2 c3 c4 c5 c6 c7 c8 c9 h5 h6
  obtain ⟨uo, uc, rfl, -⟩ := h6.open
  obtain ⟨vo, vc, rfl, -⟩ := h5.open
  exact ⟨dn, n, gen, la, pa, de, se, ts, name, b, vo, vc, uo, uc, ho, hq, c0, c1, c2, c3, c4, c5, c6, c7, c8, c9⟩
abbrev rO : Rt := ⟨1, 1, 0, 1, 64⟩
/-- What holds between acts. -/
structure WL (B : Nat) (wr : World) (p o : Nat) (x : DX) (s : PS) (a : Rt) : Prop where
  d : Dk B wr p x s
  box : wr.heap[o]? = some (rtO a)
  no : o ∉ x.blk p
  wf : WF s
  ws : WS s (rtBytes a)
  ra : rtB a = true
theorem WL.turn {B : Nat} {w : World} {p o : Nat} {x : DX} {s : PS} {a : Rt} (z : Rt) (d : Dk B w p x s) (ho : w.heap[o]? = some (rtO a)) (no : o ∉ x.blk p) (wf : WF s) (ws : WS s (rtBytes z)) (ra : rtB z = true) :
    WL B (((((w.setCell ⟨o, 0, none⟩ (uv z.gen)).setCell ⟨o, 1, none⟩ (.int .i64 z.lanes)).setCell ⟨o, 2, none⟩ (.int .i64 z.pay)).setCell ⟨o, 3, none⟩ (.int .i64 z.del)).setCell ⟨o, 4, none⟩ (.int .i64 z.seg)) p o x s z := by
  have hfr : ∀ (w : World) (i : Nat) (u : Value), Fr [o] w (w.setCell ⟨o, i, none⟩ u) := fun w i u => fr_setCell _ _ _ (by simp)
  have hf := ((((hfr w 0 (uv z.gen)).trans (hfr _ 1 (.int .i64 z.lanes))).trans (hfr _ 2 (.int .i64 z.pay))).trans (hfr _ 3 (.int .i64 z.del))).trans (hfr _ 4 (.int .i64 z.seg))
  exact ⟨d.fr hf fun b hb hm => no (by rw [List.mem_singleton] at hm; rw [← hm]; exact hb), set5 ho _ _ _ _ _, no, wf, ws, ra⟩
set_option maxHeartbeats 8000000 in
theorem rootWhole_law (v : Value) (m : List ArV) (w : World) (hA : ActsR w v m) (ht : Tab w) :
    Calls Tryd.prog 3 #[v] w fun e w' => e = .returned (.bool true) ∧ Ext w w' := by
  have HA := hid hA
  have HT := hid ht
  obtain ⟨hrow, hokk⟩ := hA
  obtain ⟨ao, cap, rfl, hle, hm, hnn, hcell⟩ := hrow.open
  have HNN := hid hnn
  have HM := hid hm
  have HLE := hid hle
  clear hrow hokk hcell hnn ht hm hle
  go_enter Tryd.func3, Tryd.ntmps3
  go_wp2_with fail
  refine (awake16_any _ HT.out).mono ?_
  rintro e w1 ⟨rfl, hw⟩
  have HE1 := hid hw
  clear hw
  go_wp2_with fail
  refine Calls.mono (dnew_any w1 w.heap.size HE1.out.size 4096) ?_
  rintro e w2 ⟨-, h⟩
  obtain ⟨p, x0, rfl, d2, x2, -⟩ := h (by decide) (by decide)
  have D2 := hid d2
  have HE2 := hid (HE1.out.trans x2)
  clear h d2 x2 HE1
  by_cases h40 : 40 < m.length
  · have h40' : decide ((40 : Int) < m.length) = true := by simp; omega
    go_wp2
    go_ret
    exact ⟨rfl, HE2.out⟩
  have h40' : decide ((40 : Int) < m.length) = false := by simp; omega
  have H40 := hid h40
  clear h40
  have HB3 := hid (heap_alloc_new w2 (rtO rO))
  have HN3 := hid D2.out.new_nin
  have HE3 := hid (HE2.out.trans (Ext.alloc w2 (rtO rO)))
  have D3 := hid (D2.out.ext (Ext.alloc w2 (rtO rO)))
  obtain ⟨o, ho⟩ : ∃ o, w2.heap.size = o := ⟨_, rfl⟩
  have HO := hid ho
  rw [ho] at HB3 HN3
  obtain ⟨w3, hw3⟩ : ∃ W, w2.alloc (rtO rO) = W := ⟨_, rfl⟩
  rw [hw3] at HB3 HE3 D3
  obtain ⟨k0, k1, k2, k3, k4, kf⟩ := blk5 HB3.out
  clear ho
  go_wp2_with fail
  have hw3' : w2.alloc (.cells #[.int .u64 1, .int .i64 1, .int .i64 0, .int .i64 1, .int .i64 64] 32 (0, 0)) = w3 := hw3
  rw [hw3', HO.out]
  clear k0 k1 k2 k3 k4 kf hw3'
  obtain ⟨s1, hs1, hws⟩ := whole_first (r := rO) (by decide)
  have hw0 : WF (newP (Int.toNat 4096)) := wf_new (by decide)
  have hw1 := wf_wr hw0 rO
  rw [hs1] at hw1
  have hc := write_at hs1 D3.out HE3.out.size hw0 (Nat.zero_le _) (HT.out.ext HE3.out)
  clear hs1 hw0
  refine hc.mono ?_
  clear hc
  rintro e w4 ⟨rfl, hs⟩
  obtain ⟨x4, d4, b4, kp⟩ := hs.keep
  obtain ⟨hb, hn⟩ := kp _ _ HB3.out HN3.out
  have HWL : Hid (WL w.heap.size w4 p o x4 s1 rO) := hid ⟨d4, hb, hn, hw1, hws, by decide⟩
  have HE4 := hid (HE3.out.below b4)
  have HOL := hid (show w.heap.size ≤ o from by have := HE2.out.size; have := HO.out; omega)
  clear hs d4 b4 kp hb hn hw1 hws D2 D3 HB3 HN3 HE2 HE3 HO hw3
  go_wp2
  go_loopw [32] (fun i wr => ∃ (k : Nat) (x : DX) (s : PS) (a : Rt), k ≤ m.length ∧ i = .int .i64 k ∧ Hid (WL w.heap.size wr p o x s a) ∧ Hid (Ext w wr)) (fun i _ => m.length - (intOf i).toNat)
  case atStart => exact ⟨0, x4, s1, rO, by omega, rfl, HWL, HE4⟩
  case round =>
    obtain ⟨k, x, s, a, hk, rfl, HW, HE⟩ := hrel
    by_cases hlt : k < m.length
    case neg =>
      obtain rfl : k = m.length := by omega
      go_wp2
      go_ret
      exact ⟨rfl, HE.out⟩
    obtain ⟨a0, rfl⟩ := HNN.out (by have := HLE.out; omega)
    obtain ⟨dn, n, gen, la, pa, de, se, ts, name, b, vo, vc, uo, uc, hok, hmk, c0, c1, c2, c3, c4, c5, c6, c7, c8, c9⟩ := ractR_at HA.out HE.out k hlt
    have HOK := hid hok
    have HLT := hid hlt
    clear hok hmk
    have hi1 : decide ((k : Int) < m.length) = true := by simp; omega
    have HB5 := hid (heap_alloc_new wr (arO (⟨dn, n, ⟨gen, la, pa, de, se⟩, ts, name, b⟩, .slice vo ts.length vc, .slice uo b.length uc)))
    have HE5 := hid (Ext.alloc wr (arO (⟨dn, n, ⟨gen, la, pa, de, se⟩, ts, name, b⟩, .slice vo ts.length vc, .slice uo b.length uc)))
    have HN5 := hid HW.out.d.new_nin
    obtain ⟨q, hq⟩ : ∃ q, wr.heap.size = q := ⟨_, rfl⟩
    rw [hq] at HB5 HN5
    obtain ⟨w5, hw5⟩ : ∃ W, wr.alloc (arO (⟨dn, n, ⟨gen, la, pa, de, se⟩, ts, name, b⟩, .slice vo ts.length vc, .slice uo b.length uc)) = W := ⟨_, rfl⟩
    rw [hw5] at HB5 HE5
    obtain ⟨b0, b1, b2, b3, b4, b5, b6, b7, b8, b9⟩ := blk10 HB5.out
    by_cases h300 : 300 < ts.length
    · have h300' : decide ((300 : Int) < ts.length) = true := by simp; omega
      go_wp2
      go_ret
      exact ⟨rfl, HE.out.trans HE5.out⟩
    have h300' : decide ((300 : Int) < ts.length) = false := by simp; omega
    have H300 := hid h300
    clear h300
    obtain ⟨rb, hrb⟩ : ∃ r, rtB ⟨gen, la, pa, de, se⟩ = r := ⟨_, rfl⟩
    have HRB := hid hrb
    clear hrb
    go_wp2_with fail
    clear c0 c1 c2 c3 c4 c5 c6 c7 c8 c9 b0 b1 b2 b3 b4 b5 b6 b7 b8 b9 hi1 h300' hw5 hq
    refine Calls.mono (rt_any ⟨gen, la, pa, de, se⟩ _) ?_
    rintro e w6 ⟨rfl, hx⟩
    rw [HRB.out]
    have HE6 := hid (HE.out.trans (HE5.out.trans hx))
    have HQ6 := hid (hx.obj HB5.out)
    have HO6 := hid ((HE5.out.trans hx).obj HW.out.box)
    have HD6 := hid (HW.out.d.ext (HE5.out.trans hx))
    clear hx HE5 HB5
    cases rb
    case false =>
      go_wp2
      go_ret
      exact ⟨rfl, HE6.out⟩
    obtain ⟨b0, b1, b2, b3, b4, b5, b6, b7, b8, b9⟩ := blk10 HQ6.out
    go_wp2_with fail
    clear b0 b1 b2 b3 b4 b5 b6 b7 b8 b9
    refine Calls.mono (dfuse_any n HOK.out.n.2 HD6.out HE6.out.size) ?_
    rintro e w7 ⟨⟨u, rfl⟩, hs⟩
    obtain ⟨x7, d7, b7, kp⟩ := hs.keep
    obtain ⟨hq7, hqn7⟩ := kp _ _ HQ6.out HN5.out
    obtain ⟨ho7, hon7⟩ := kp _ _ HO6.out HW.out.no
    have HQ7 := hid hq7
    have HQN7 := hid hqn7
    have HO7 := hid ho7
    have HON7 := hid hon7
    have D7 := hid d7
    have HE7 := hid (HE6.out.below b7)
    obtain ⟨ec, s8, z, hw8, he8, hws, hz, hez, hza⟩ := whole_act HW.out.ws HW.out.ra HRB.out n dn ts
    have hwf7 := HW.out.wf.fus n HOK.out.n.2
    have hwf8 := wf_wr hwf7 ⟨gen, la, pa, de, se⟩
    rw [hw8] at hwf8
    have hopn : (fusP s n).opn.length ≤ 90000 := by
      have : (fusP s n).opn = [] := HW.out.ws.opn
      rw [this]; exact Nat.zero_le _
    have HC8 := hid (write_at hw8 D7.out HE7.out.size hwf7 hopn (HT.out.ext HE7.out))
    have HWF8 := hid hwf8
    have HWS := hid hws
    have HZ := hid hz
    have HEZ := hid hez
    have HZA := hid hza
    have HEC := hid he8
    clear hs d7 b7 kp hq7 hqn7 ho7 hon7 HQ6 HO6 HD6 HE6 hw8 hwf7 hwf8 hopn hws hz hez hza he8
    obtain ⟨b0, b1, b2, b3, b4, b5, b6, b7, b8, b9⟩ := blk10 HQ7.out
    go_wp2_with fail
    clear b0 b1 b2 b3 b4 b5 b6 b7 b8 b9
    refine Calls.mono HC8.out ?_
    rintro e w8 ⟨rfl, hs⟩
    obtain ⟨x8, d8, b8, kp⟩ := hs.keep
    obtain ⟨hq8, hqn8⟩ := kp _ _ HQ7.out HQN7.out
    obtain ⟨ho8, hon8⟩ := kp _ _ HO7.out HON7.out
    have HQ8 := hid hq8
    have HQN8 := hid hqn8
    have HO8 := hid ho8
    have HON8 := hid hon8
    have D8 := hid d8
    have HE8 := hid (HE7.out.below b8)
    clear hs d8 b8 kp hq8 hqn8 ho8 hon8 HQ7 HO7 HC8 D7 HQN7 HON7 HE7
    obtain ⟨b0, b1, b2, b3, b4, b5, b6, b7, b8, b9⟩ := blk10 HQ8.out
    go_wp2_with fail
    clear b0 b1 b2 b3 b4 b5 b6 b7 b8 b9
    have hto : ∀ a, vo = some a → ts ≠ [] → a.block ∉ x8.blk p := by
      rintro a rfl hne hm
      have h1 := lowR_of HOK.out.t hne
      have h2 := D8.out.low _ hm
      omega
    have hc := dcrash_any dn ts vo vc D8.out HE8.out.size (HOK.out.t.ext HE8.out) hto HOK.out.ts (HWF8.out.cra dn ts).gd
    refine Calls.mono hc ?_
    clear hc hto
    rintro e w9 ⟨⟨u, rfl⟩, hs⟩
    obtain ⟨x9, d9, b9, kp⟩ := hs.keep
    obtain ⟨hq9, hqn9⟩ := kp _ _ HQ8.out HQN8.out
    obtain ⟨ho9, hon9⟩ := kp _ _ HO8.out HON8.out
    have HQ9 := hid hq9
    have HO9 := hid ho9
    have HON9 := hid hon9
    have D9 := hid d9
    have HE9 := hid (HE8.out.below b9)
    clear hs d9 b9 kp hq9 hqn9 ho9 hon9 HQ8 HO8 D8 HQN8 HON8 HE8
    go_wp2_with fail
    refine Calls.mono (readA_any (some z) D9.out (HWS.out.rds HZ.out) (HT.out.ext HE9.out)) ?_
    rintro e w10 ⟨rfl, hx⟩
    have HQ10 := hid (hx.obj HQ9.out)
    have HO10 := hid (hx.obj HO9.out)
    have D10 := hid (D9.out.ext hx)
    have HE10 := hid (HE9.out.trans hx)
    clear hx HQ9 HO9 D9 HE9
    have hcs : (ec = 0 ∧ z = ⟨gen, la, pa, de, se⟩) ∨ (ec = 7 ∧ z = a) ∨ (ec = 7 ∧ z = ⟨gen, la, pa, de, se⟩) := by
      rcases HEC.out with h | h
      · exact .inl ⟨h, HEZ.out h⟩
      · rcases HZA.out with h2 | h2
        · exact .inr (.inl ⟨h, h2⟩)
        · exact .inr (.inr ⟨h, h2⟩)
    have HWF10 : Hid (WF (crP s8 dn ts)) := hid (HWF8.out.cra dn ts)
    clear HEC HEZ HZA HWF8 HW H300 HN5
    obtain ⟨ga, la2, pa2, de2, se2⟩ := a
    have hdf : (gen = ga ∧ la = la2 ∧ pa = pa2 ∧ de = de2 ∧ se = se2) ∨ (((gen.toNat : Int) == (ga.toNat : Int)) = false ∧ ¬ (gen.toNat : Int) = (ga.toNat : Int)) ∨ (gen = ga ∧ (la == la2) = false ∧ ¬ la = la2) ∨
        (gen = ga ∧ la = la2 ∧ (pa == pa2) = false ∧ ¬ pa = pa2) ∨ (gen = ga ∧ la = la2 ∧ pa = pa2 ∧ (de == de2) = false ∧ ¬ de = de2) ∨ (gen = ga ∧ la = la2 ∧ pa = pa2 ∧ de = de2 ∧ (se == se2) = false ∧ ¬ se = se2) := by
      simp only [beq_eq_false_iff_ne, ne_eq, and_self]
      by_cases h0 : gen = ga
      · by_cases h1 : la = la2
        · by_cases h2 : pa = pa2
          · by_cases h3 : de = de2
            · by_cases h4 : se = se2
              · exact .inl ⟨h0, h1, h2, h3, h4⟩
              · exact .inr (.inr (.inr (.inr (.inr ⟨h0, h1, h2, h3, h4⟩))))
            · exact .inr (.inr (.inr (.inr (.inl ⟨h0, h1, h2, h3⟩))))
          · exact .inr (.inr (.inr (.inl ⟨h0, h1, h2⟩)))
        · exact .inr (.inr (.inl ⟨h0, h1⟩))
      · exact .inr (.inl fun h => h0 (UInt64.toNat_inj.1 (by omega)))
    rcases hcs with ⟨rfl, rfl⟩ | ⟨rfl, rfl⟩ | ⟨rfl, rfl⟩
    · rcases hdf with ⟨rfl, rfl, rfl, rfl, rfl⟩ | ⟨e0, e0'⟩ | ⟨rfl, e0, e0'⟩ | ⟨rfl, rfl, e0, e0'⟩ | ⟨rfl, rfl, rfl, e0, e0'⟩ | ⟨rfl, rfl, rfl, rfl, e0, e0'⟩
      all_goals
        have HE11 := hid (Ext.alloc w10 (rtO ⟨gen, la, pa, de, se⟩))
        obtain ⟨b0, b1, b2, b3, b4, b5, b6, b7, b8, b9⟩ := blk10 HQ10.out
        obtain ⟨o0, o1, o2, o3, o4, oF⟩ := blk5 HO10.out
        have B2 := fun o => (Ext.alloc w10 o).cell b2
        have B3 := fun o => (Ext.alloc w10 o).cell b3
        have B4 := fun o => (Ext.alloc w10 o).cell b4
        have B5 := fun o => (Ext.alloc w10 o).cell b5
        have B6 := fun o => (Ext.alloc w10 o).cell b6
        have O0 := fun o => (Ext.alloc w10 o).cell o0
        have O1 := fun o => (Ext.alloc w10 o).cell o1
        have O2 := fun o => (Ext.alloc w10 o).cell o2
        have O3 := fun o => (Ext.alloc w10 o).cell o3
        have O4 := fun o => (Ext.alloc w10 o).cell o4
        have oG : ∀ O i, (w10.alloc O).frozen? ⟨o, i, none⟩ = false := fun O => (blk5 ((Ext.alloc w10 O).obj HO10.out)).2.2.2.2.2
        clear b0 b1 b2 b3 b4 b5 b6 b7 b8 b9 o0 o1 o2 o3 o4 oF
        have hb40 := H40.out
        go_wp2
        go_roundw
        case rel => exact ⟨k + 1, x9, _, ⟨gen, la, pa, de, se⟩, HLT.out, by have := HLT.out; have := H40.out; go_num, hid (WL.turn ⟨gen, la, pa, de, se⟩ (D10.out.ext HE11.out) (HE11.out.obj HO10.out) HON9.out HWF10.out HWS.out HZ.out), hid (ext5 _ _ _ _ _ (HE10.out.trans HE11.out) HOL.out)⟩
        case measure =>
          have := HLT.out
          have := H40.out
          simp [intOf]; omega
    · clear hdf
      have HE11 := hid (Ext.alloc w10 (rtO ⟨ga, la2, pa2, de2, se2⟩))
      obtain ⟨b0, b1, b2, b3, b4, b5, b6, b7, b8, b9⟩ := blk10 HQ10.out
      obtain ⟨o0, o1, o2, o3, o4, oF⟩ := blk5 HO10.out
      have B2 := fun o => (Ext.alloc w10 o).cell b2
      have B3 := fun o => (Ext.alloc w10 o).cell b3
      have B4 := fun o => (Ext.alloc w10 o).cell b4
      have B5 := fun o => (Ext.alloc w10 o).cell b5
      have B6 := fun o => (Ext.alloc w10 o).cell b6
      have O0 := fun o => (Ext.alloc w10 o).cell o0
      have O1 := fun o => (Ext.alloc w10 o).cell o1
      have O2 := fun o => (Ext.alloc w10 o).cell o2
      have O3 := fun o => (Ext.alloc w10 o).cell o3
      have O4 := fun o => (Ext.alloc w10 o).cell o4
      have oG : ∀ O i, (w10.alloc O).frozen? ⟨o, i, none⟩ = false := fun O => (blk5 ((Ext.alloc w10 O).obj HO10.out)).2.2.2.2.2
      clear b0 b1 b2 b3 b4 b5 b6 b7 b8 b9 o0 o1 o2 o3 o4 oF
      have hb40 := H40.out
      go_wp2
      go_roundw
      case rel => exact ⟨k + 1, x9, _, ⟨ga, la2, pa2, de2, se2⟩, HLT.out, by have := HLT.out; have := H40.out; go_num, hid (WL.turn ⟨ga, la2, pa2, de2, se2⟩ (D10.out.ext HE11.out) (HE11.out.obj HO10.out) HON9.out HWF10.out HWS.out HZ.out), hid (ext5 _ _ _ _ _ (HE10.out.trans HE11.out) HOL.out)⟩
      case measure =>
        have := HLT.out
        have := H40.out
        simp [intOf]; omega
    · rcases hdf with ⟨rfl, rfl, rfl, rfl, rfl⟩ | ⟨e0, e0'⟩ | ⟨rfl, e0, e0'⟩ | ⟨rfl, rfl, e0, e0'⟩ | ⟨rfl, rfl, rfl, e0, e0'⟩ | ⟨rfl, rfl, rfl, rfl, e0, e0'⟩
      all_goals
        have HE11 := hid (Ext.alloc w10 (rtO ⟨gen, la, pa, de, se⟩))
        obtain ⟨b0, b1, b2, b3, b4, b5, b6, b7, b8, b9⟩ := blk10 HQ10.out
        obtain ⟨o0, o1, o2, o3, o4, oF⟩ := blk5 HO10.out
        have B2 := fun o => (Ext.alloc w10 o).cell b2
        have B3 := fun o => (Ext.alloc w10 o).cell b3
        have B4 := fun o => (Ext.alloc w10 o).cell b4
        have B5 := fun o => (Ext.alloc w10 o).cell b5
        have B6 := fun o => (Ext.alloc w10 o).cell b6
        have O0 := fun o => (Ext.alloc w10 o).cell o0
        have O1 := fun o => (Ext.alloc w10 o).cell o1
        have O2 := fun o => (Ext.alloc w10 o).cell o2
        have O3 := fun o => (Ext.alloc w10 o).cell o3
        have O4 := fun o => (Ext.alloc w10 o).cell o4
        have oG : ∀ O i, (w10.alloc O).frozen? ⟨o, i, none⟩ = false := fun O => (blk5 ((Ext.alloc w10 O).obj HO10.out)).2.2.2.2.2
        clear b0 b1 b2 b3 b4 b5 b6 b7 b8 b9 o0 o1 o2 o3 o4 oF
        have hb40 := H40.out
        go_wp2
        go_roundw
        case rel => exact ⟨k + 1, x9, _, ⟨gen, la, pa, de, se⟩, HLT.out, by have := HLT.out; have := H40.out; go_num, hid (WL.turn ⟨gen, la, pa, de, se⟩ (D10.out.ext HE11.out) (HE11.out.obj HO10.out) HON9.out HWF10.out HWS.out HZ.out), hid (ext5 _ _ _ _ _ (HE10.out.trans HE11.out) HOL.out)⟩
        case measure =>
          have := HLT.out
          have := H40.out
          simp [intOf]; omega
end Go.Proofs.YtiblhopjhpflpaaDoor

namespace Go.Proofs.YtiblhopjhpflpaaDoor.rootWhole
open Go.ChangeShapes Go.WideShapes Go.ChangeAt Go.RowKit
set_option linter.unusedVariables false
set_option maxRecDepth 100000

theorem own : ownKnob Tryd.prog.godebug = none := by kernel_rfl
theorem kid1 : laidOutB Tryd.prog = true := by kernel_rfl
theorem kid2 : mapsRowed Tryd.prog = true := by kernel_rfl
theorem kid3 : ((List.range Tryd.prog.types.size).all fun t => match Tryd.prog.underlying t with | some (.slice e) => decide (0 < Tryd.prog.cellsOf e) | _ => true) = true := by kernel_rfl
theorem kid4 : ∀ t ∈ Tryd.f3.params.toList, t < Tryd.prog.types.size := by decide +kernel
theorem gTab : Tryd.prog.globalNamed "tumbrel/record.numbers" = some 0 := by kernel_rfl
theorem gTabType : (Tryd.prog.globals[0]?).map (·.type) = some 97 := by kernel_rfl
theorem cellsT : Tryd.prog.cellsOf 97 = 18 := by kernel_rfl
theorem cellsE : Tryd.prog.cellsOf 3 = 1 := by kernel_rfl
theorem table {W : World} (h : laidMetH Tryd.prog Rows.rootWholeRow.laid W) : Tab W := by
  have ht : Lib.TabIs Tryd.prog W "tumbrel/record.numbers" .i64 tabZ :=
    Lib.tabIs_of_head (rest := []) gTab gTabType Tryd.underlying97 Tryd.underlying3 cellsE cellsT h
  intro i hi
  rw [← tabZ_at ⟨i, hi⟩]
  exact ht.cell gTab i hi

theorem contract (H : Type) (enc : TypeId × Value → H) (W : World) (base : Nat) (args : Array Value) (ds gs : List (DataW H)) (before : List MemPlace)
    (hval : ∀ (j : Nat) t v, Tryd.f3.params[j]? = some t → args[j]? = some v → Value.okWide Tryd.prog W .any base t v)
    (hW : DataW.Whole enc Tryd.prog Tryd.f3.params.toList Rows.rootWholeSpec.vars false W args.toList ds gs before) (hL : laidMetH Tryd.prog Rows.rootWholeRow.laid W) :
    Calls Tryd.prog 3 args W fun e W' => ∃ v, e = .returned v ∧ Rows.rootWholeSpec.post enc Tryd.prog Tryd.f3 false true false false W args v W' := by
  have hW' := hW
  obtain ⟨p, q, hA0, hV, rfl, hfz, hnd⟩ := hW
  have hA : DataW.TrodAll enc Tryd.prog W 0 (fun _ => true) true Tryd.f3.params.toList args.toList ds p := hA0
  rw [Tryd.params3] at hA hval
  obtain ⟨v0, vs0, d0, ds0, p0, q0, hargs, rfl, rfl, h0, r0⟩ := trodAll_cons hA
  obtain ⟨rfl, rfl, rfl⟩ := trodAll_nil r0
  obtain rfl : args = #[v0] := by cases args; simp_all
  obtain ⟨rfl, rfl⟩ := trodVars_none hV
  obtain ⟨m0, hm0⟩ := open_actsR (hval 0 22 v0 rfl rfl) h0
  refine (rootWhole_law v0 m0 W hm0 (table hL)).mono fun e W' ⟨he, hg⟩ => ?_
  subst he
  exact ⟨_, rfl, Go.Tum.law_post kid1 kid2 kid3 kid4 rfl Tryd.underlying4 hW' rfl rfl hg⟩

/-- A world for the witness: the settled one, the table laid. -/
noncomputable def laidWorld (os : Os) : World :=
  { World.holding Tryd.prog os ⟨#[], #[], []⟩ with heap := (World.holding Tryd.prog os ⟨#[], #[], []⟩).heap.modify 0 fun
      | .cells _ t frozen => .cells (tabZ.map fun z => Value.int .i64 z).toArray t frozen
      | o => o }
theorem laid_met (os : Os) : laidMet Tryd.prog Rows.rootWholeRow.laid ((laidWorld os).forCall (fun _ _ => 0) ⟨#[], #[.slice none 0 0], []⟩).memory :=
  laidMet_of_run' 8 (by kernel_rfl) (by kernel_rfl)
theorem reads (os : Os) {H : Type} (enc : TypeId × Value → H) : ∃ places, DataW.whole enc Tryd.prog ((laidWorld os).forCall (fun _ _ => 0) ⟨#[], #[.slice none 0 0], []⟩).memory Tryd.f3.params.toList Rows.rootWholeSpec.vars false #[Value.slice none 0 0].toList 8 = some ([.nil], [], places) :=
  ⟨[], by kernel_rfl⟩

set_option maxRecDepth 100000 in
theorem lifted (os : Os) (started : os.Started) (H : Type) (enc : TypeId × Value → H) (F : Stop.Interp) :
    ReturnsInHanded {} Tryd.checked os 3 .any ((OpenSpec.ofChange Rows.rootWholeSpec).preRow enc Tryd.prog Tryd.f3 Rows.rootWholeRow.domain false Rows.rootWholeRow.laid) (((OpenSpec.ofChange Rows.rootWholeSpec).at F).post enc Tryd.prog Tryd.f3 false true false false) := by
  obtain ⟨places, hx⟩ := reads os enc
  refine returnsInHanded_of_row (C := Tryd.checked) (s := OpenSpec.ofChange Rows.rootWholeSpec) own started (by kernel_rfl) Tryd.func3
    (witness_row_at (enc := enc) (C := Tryd.checked) false (laidWorld os) #[.slice none 0 0] rfl (by kernel_rfl) (by kernel_rfl) (by kernel_rfl)
      (OpenSpec.preRow_of_cond 8 hx (by kernel_rfl) (fun k hk => by cases hk) (by kernel_rfl) (laid_met os))) ?_
  intro W base args ds gs before hval hW _ _ _ hL _ _
  exact contract H enc W base args ds gs before hval hW hL

theorem said : Rows.RootWholeSaid :=
  OpenClaim.holds_of_cond 3 Tryd.f3 rfl rfl rfl rfl rfl rfl rfl ⟨rfl, rfl, rfl, rfl, rfl⟩ rfl rfl rfl rfl rfl (by kernel_rfl) Tryd.func3 (by kernel_rfl)
    (of_decide_eq_true (by kernel_rfl)) (by unfold Func.isWrapper; first | (rw [if_pos (by decide +kernel)]; kernel_rfl) | (rw [if_neg (by decide +kernel)]; exact ⟨rfl, rfl⟩))
    (fun os started H enc _ F => by rw [OpenClaim.pre_eq_preRow]; exact lifted os started H enc F)

theorem plain (f : FuncId) (fn : Func) (hf : Tryd.pinned.checked.prog.funcNamed "tumbrel/tumbrellaw16.RootWhole" = some f) (hfn : Tryd.pinned.checked.prog.funcs[f]? = some fn) :
    true = Tryd.pinned.checked.prog.looks [] ∧ ∀ (j : Nat) t, fn.params[j]? = some t → Tryd.pinned.checked.prog.wantsStandIn t = false := by
  obtain rfl : f = 3 := Option.some.inj ((show Tryd.prog.funcNamed "tumbrel/tumbrellaw16.RootWhole" = some 3 by kernel_rfl).symm.trans hf) |>.symm
  obtain rfl : fn = Tryd.f3 := (Option.some.inj (Tryd.func3.symm.trans hfn)).symm
  refine ⟨by kernel_rfl, fun j t ht => ?_⟩
  rw [Tryd.params3] at ht
  have hm := Array.mem_of_getElem? ht
  have hall : ∀ t ∈ Tryd.f3.params.toList, Tryd.prog.wantsStandIn t = false := by decide +kernel
  rw [Tryd.params3] at hall
  exact hall t (by simpa using hm)

theorem proved : Rows.RootWholeCardSaid :=
  Claim7.holds_tied_plain_at .later [] _ _ _ _ said (fun _ h => by cases h) (by kernel_rfl) (fun _ h => by cases h) rootWhole_row_tie rfl ⟨rfl, rfl⟩ (by kernel_rfl) rfl plain (by kernel_rfl)
end Go.Proofs.YtiblhopjhpflpaaDoor.rootWhole

