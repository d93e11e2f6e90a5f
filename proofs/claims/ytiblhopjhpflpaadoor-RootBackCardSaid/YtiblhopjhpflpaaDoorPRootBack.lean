/- For every input the law RootBack returns true and leaves what was there as it was; and its card.
The root's laws: that it's awake; RootBack.
A root among the arguments, opened. -/
import Derived.Test.YtiblhopjhpflpaaDoorRotMD
import Derived.Test.YtiblhopjhpflpaaDoorDskMJ
import Derived.Test.YtiblhopjhpflpaaDoorDskMK
import Derived.Test.YtiblhopjhpflpaaDoorOpenV
import Derived.Lib.SmallJoins
import Derived.Test.YtiblhopjhpflpaaDoorCards
import Derived.Test.YtiblhopjhpflpaaDoorTie
import Derived.WalkKit
import Derived.ProofKit
import Derived.OpenShut
import Derived.Below
import Derived.Deep.DeepHandedRow
import Derived.Lib.LaidTab
import Derived.Test.YtiblhopjhpflpaaDoorFrame
set_option linter.unusedSimpArgs false
set_option linter.unusedVariables false
set_option maxRecDepth 100000
namespace Go.Proofs.YtiblhopjhpflpaaDoor
open Go Go.RowKit Go.Tum Go.ChangeMaps Go.Tum.Crc

/-- A step of the disk: what lies elsewhere stays, and stays elsewhere. -/
theorem Stp.keep {B : Nat} {w w' : World} {p : Nat} {x : DX} {s : PS} (h : Stp B w p x s w') :
    ∃ x', Dk B w' p x' s ∧ Below B w w' ∧ ∀ b o, w.heap[b]? = some o → b ∉ x.blk p → w'.heap[b]? = some o ∧ b ∉ x'.blk p := by
  obtain ⟨x', d, f, bl, q⟩ := h
  refine ⟨x', d, bl, fun b o hb hn => ⟨fr_at16 f hb hn, fun hm => ?_⟩⟩
  have hl := (Array.getElem?_eq_some_iff.1 hb).1
  rcases q b hm with h1 | h1
  · exact hn h1
  · omega
theorem Dk.new_nin {B : Nat} {w : World} {p : Nat} {x : DX} {s : PS} (h : Dk B w p x s) : w.heap.size ∉ x.blk p := fun hm => by have := h.lt16 _ hm; omega
/-- What is read of a disk. -/
def RdS (s : PS) : Option Rt → Prop
  | none => rdE s nRoot = 5
  | some r => rdE s nRoot = 0 ∧ rdB s nRoot = rtBytes r ∧ rtB r = true
theorem readA_any {B : Nat} {w : World} {p : Nat} {x : DX} {s : PS} (o : Option Rt) (h : Dk B w p x s) (ho : RdS s o) (ht : Tab w) :
    Calls Tryd.prog 12 #[pv p] w fun e w' => e = .returned (.tuple #[rtV (o.getD rt0), .int .i64 (if o.isSome then 0 else 5)]) ∧ Ext w w' := by
  cases o with
  | none => exact readN_any h ho
  | some r => exact readR_any r h ho.1 ho.2.1 ho.2.2 ht
theorem rds_new (n : Nat) : RdS (newP n) none := rfl
theorem rds_A1 (n : Nat) {r : Rt} (h : rtB r = true) : RdS (A1 n (rtBytes r)) (some r) := ⟨rfl, by rfl, h⟩
theorem rds_A2 (n : Nat) (b : List UInt8) {r : Rt} (h : rtB r = true) : RdS (A2 n b (rtBytes r)) (some r) := ⟨rfl, by rfl, h⟩
theorem wr_no {s : PS} {r : Rt} (h : rtB r = false) : wrP s r = (1, s) := by unfold wrP; rw [h]; rfl
theorem wf_seq : ∀ (l : List (PS → Nat × PS)) (s : PS), WF s → (∀ f ∈ l, ∀ s, WF s → WF (f s).2) → WF (seqP l s).2
  | [], _, h, _ => h
  | f :: r, s, h, k => by
    rw [seqP_cons]
    have h1 := k f (by simp) s h
    split
    · exact wf_seq r _ h1 fun g hg => k g (List.mem_cons_of_mem _ hg)
    · exact h1
theorem wf_wr {s : PS} (h : WF s) (r : Rt) : WF (wrP s r).2 := by
  unfold wrP
  split
  · refine wf_seq _ _ h ?_
    unfold wrOps
    intro f hf s hs
    simp only [List.mem_cons, List.not_mem_nil, or_false] at hf
    rcases hf with rfl | rfl | rfl | rfl | rfl | rfl
    · exact hs.delT _
    · exact hs.cre _
    · exact hs.app _ _
    · exact hs.syn _
    · exact hs.ren _ _
    · exact hs.dsy
  · exact h
abbrev rA : Rt := ⟨3, 2, 5, 1, 64⟩
theorem vec_none (w : World) : Vec Go.Tum.iv w (.slice none 0 0) [] := Vec.nil _
set_option maxHeartbeats 4000000 in
theorem awake16_any (w : World) (ht : Tab w) : Calls Tryd.prog 6 #[] w fun e w' => e = .returned (.bool true) ∧ Ext w w' := by
  have HT := hid ht
  have hc := dnew_any w w.heap.size (Nat.le_refl _) 200
  have HC := hid hc
  clear ht hc
  go_enter Tryd.func6, Tryd.ntmps6
  go_wp2_with fail
  refine HC.out.mono ?_
  rintro e w1 ⟨-, h⟩
  obtain ⟨p, x, rfl, d1, x1, q1⟩ := h (by decide) (by decide)
  have D1 := hid d1
  have HE1 := hid x1
  clear h d1 x1 q1 HC
  go_wp2_with fail
  refine (readA_any none D1.out (rds_new _) (HT.out.ext HE1.out)).mono ?_
  rintro e w2 ⟨rfl, hx⟩
  have HE2 := hid (HE1.out.trans hx)
  have D2 := hid (D1.out.ext hx)
  clear hx HE1 D1
  obtain ⟨W3, hW3⟩ : ∃ W, w2.alloc (rtO rt0) = W := ⟨_, rfl⟩
  have HW3 := hid hW3
  obtain ⟨W4, hW4⟩ : ∃ W, W3.alloc (rtO rA) = W := ⟨_, rfl⟩
  have HW4 := hid hW4
  have hE3 : Ext w2 W3 := by rw [← hW3]; exact Ext.alloc _ _
  have hE4 : Ext W3 W4 := by rw [← hW4]; exact Ext.alloc _ _
  have hb := heap_alloc_new W3 (rtO rA)
  rw [hW4] at hb
  have D3 := hid (D2.out.ext hE3)
  have D4 := hid (D3.out.ext hE4)
  have HN4 := hid D3.out.new_nin
  have HE4 := hid (HE2.out.trans (hE3.trans hE4))
  have HB4 := hid hb
  clear hE3 hE4 D2 D3 HE2
  obtain ⟨k0, k1, k2, k3, k4, kf⟩ := blk5 hb
  clear hb
  go_wp2_with fail
  have hW4' : W3.alloc (.cells #[.int .u64 3, .int .i64 2, .int .i64 5, .int .i64 1, .int .i64 64] 32 (0, 0)) = W4 := hW4
  rw [hW4']
  clear hW4 hW4' hW3 HW3 HW4 k0 k1 k2 k3 k4 kf
  have hW : wrP (newP (Int.toNat 200)) rA = (0, A1 (Int.toNat 200) (rtBytes rA)) := wr0 (by decide) (by decide +kernel)
  have hwf : WF (newP (Int.toNat 200)) := wf_new (by decide)
  have hw1 := wf_wr hwf rA
  rw [hW] at hw1
  have HWA := hid hw1
  have hc := write_any rA D4.out HE4.out.size hwf (by decide) (HT.out.ext HE4.out)
  rw [hW] at hc
  clear hW hwf hw1
  refine hc.mono ?_
  clear hc
  rintro e w5 ⟨rfl, hs⟩
  obtain ⟨x5, d5, b5, kp⟩ := hs.keep
  obtain ⟨hb, hn⟩ := kp _ _ HB4.out HN4.out
  have HB5 := hid hb
  have HN5 := hid hn
  have D5 := hid d5
  have HE5 := hid (HE4.out.below b5)
  clear kp hs hb hn d5 b5 D4 HE4 HB4 HN4
  go_wp2_with fail
  have hc := dcrash_any 0 [] none 0 D5.out HE5.out.size (vec_none _) (by simp) (by simp) (HWA.out.cra 0 []).gd
  rw [cr1] at hc
  refine Calls.mono hc ?_
  clear hc
  rintro e w6 ⟨⟨u, rfl⟩, hs⟩
  obtain ⟨x6, d6, b6, kp⟩ := hs.keep
  obtain ⟨hb, hn⟩ := kp _ _ HB5.out HN5.out
  have HB6 := hid hb
  have HN6 := hid hn
  have D6 := hid d6
  have HE6 := hid (HE5.out.below b6)
  clear kp hs hb hn d6 b6 D5 HE5 HB5 HN5
  go_wp2_with fail
  refine (readA_any (some rA) D6.out (rds_A1 _ (by decide)) (HT.out.ext HE6.out)).mono ?_
  rintro e w7 ⟨rfl, hx⟩
  have HE7 := hid (HE6.out.trans (hx.trans (Ext.alloc w7 (rtO rA))))
  have D7 := hid (D6.out.ext (hx.trans (Ext.alloc w7 (rtO rA))))
  obtain ⟨k0, k1, k2, k3, k4, kf⟩ := blk5 (hx.obj HB6.out)
  have c0 := fun o => (Ext.alloc w7 o).cell k0
  have c1 := fun o => (Ext.alloc w7 o).cell k1
  have c2 := fun o => (Ext.alloc w7 o).cell k2
  have c3 := fun o => (Ext.alloc w7 o).cell k3
  have c4 := fun o => (Ext.alloc w7 o).cell k4
  clear hx D6 HE6 HB6 HN6
  go_wp2_with fail
  refine Calls.mono (rt_any rA _) ?_
  rintro e w8 ⟨rfl, hx⟩
  have D8 := hid (D7.out.ext hx)
  have HE8 := hid (HE7.out.trans hx)
  clear hx k0 k1 k2 k3 k4 kf c0 c1 c2 c3 c4 D7 HE7
  have hrb : rtB rA = true := by decide
  rw [hrb]
  clear hrb
  go_wp2_with fail
  have hc := write_any rt0 D8.out HE8.out.size HWA.out (by decide) (HT.out.ext HE8.out)
  rw [wr_no (by decide)] at hc
  refine Calls.mono hc ?_
  clear hc
  rintro e w9 ⟨rfl, hs⟩
  obtain ⟨x9, d9, b9, kp⟩ := hs.keep
  have HE9 := hid (HE8.out.below b9)
  clear hs d9 b9 kp
  go_wp2
  go_ret
  exact ⟨rfl, HE9.out⟩
theorem Below.at16 {B : Nat} {w w' : World} (h : Below B w w') {b : Nat} {o : Obj} (hb : w.heap[b]? = some o) (hl : b < B) : w'.heap[b]? = some o := (h.block b hl).trans hb
theorem write_at {B : Nat} {w : World} {p : Nat} {x : DX} {s s' : PS} {r : Rt} {c : Nat} (hq : wrP s r = (c, s')) (h : Dk B w p x s) (hB : B ≤ w.heap.size) (hw : WF s) (hl : s.opn.length ≤ 90000) (ht : Tab w) :
    Calls Tryd.prog 8 #[pv p, rtV r] w fun e w' => e = .returned (.int .i64 (c : Int)) ∧ Stp B w p x s' w' := by
  have := write_any r h hB hw hl ht
  rw [hq] at this
  exact this
theorem two_wr (a b : Rt) : ∃ s1 s2 o1 o2, wrP (newP (Int.toNat 1024)) a = (cond (rtB a) 0 1, s1) ∧ RdS s1 o1 ∧ o1 = cond (rtB a) (some a) none ∧ wrP s1 b = (cond (rtB b) 0 1, s2) ∧ RdS s2 o2 ∧ o2 = cond (rtB b) (some b) o1 ∧ WF s1 ∧ s1.opn.length ≤ 90000 := by
  have hn : WF (newP (Int.toNat 1024)) := wf_new (by decide)
  have la := rt_len a
  have lb := rt_len b
  have hwa := wf_wr hn a
  cases ha : rtB a with
  | false =>
    cases hb : rtB b with
    | false => exact ⟨_, _, _, _, wr_no ha, rds_new _, rfl, wr_no hb, rds_new _, rfl, hn, by decide⟩
    | true => exact ⟨_, _, _, _, wr_no ha, rds_new _, rfl, wr0 hb (by have : Int.toNat 1024 = 1024 := rfl; omega), rds_A1 _ hb, rfl, hn, by decide⟩
  | true =>
    have h1 : wrP (newP (Int.toNat 1024)) a = (0, A1 (Int.toNat 1024) (rtBytes a)) := wr0 ha (by have : Int.toNat 1024 = 1024 := rfl; omega)
    rw [h1] at hwa
    cases hb : rtB b with
    | false => exact ⟨_, _, _, _, h1, rds_A1 _ ha, rfl, wr_no hb, rds_A1 _ ha, rfl, hwa, Nat.zero_le _⟩
    | true => exact ⟨_, _, _, _, h1, rds_A1 _ ha, rfl, wr1 hb (by have : Int.toNat 1024 = 1024 := rfl; omega), rds_A2 _ _ hb, rfl, hwa, Nat.zero_le _⟩
set_option maxHeartbeats 8000000 in
theorem rootBack_law (a b : Rt) (w : World) (ht : Tab w) : Calls Tryd.prog 4 #[rtV a, rtV b] w fun e w' => e = .returned (.bool true) ∧ Ext w w' := by
  have HT := hid ht
  obtain ⟨W2, hW2⟩ : ∃ W, (w.alloc (rtO a)).alloc (rtO b) = W := ⟨_, rfl⟩
  have hb1 := (Ext.alloc (w.alloc (rtO a)) (rtO b)).obj (heap_alloc_new w (rtO a))
  have hb2 := heap_alloc_new (w.alloc (rtO a)) (rtO b)
  rw [World.size_alloc] at hb2
  have hE2 := (Ext.alloc w (rtO a)).trans (Ext.alloc (w.alloc (rtO a)) (rtO b))
  rw [hW2] at hb1 hb2 hE2
  have HB1 := hid hb1
  have HB2 := hid hb2
  have HE2 := hid hE2
  obtain ⟨s1, s2, o1, o2, h1, r1, e1, h2, r2, e2, hw1, hl1⟩ := two_wr a b
  obtain ⟨ra, hra⟩ : ∃ r, rtB a = r := ⟨_, rfl⟩
  obtain ⟨rb, hrb⟩ : ∃ r, rtB b = r := ⟨_, rfl⟩
  rw [hra] at h1 e1
  rw [hrb] at h2 e2
  have HRA := hid hra
  have HRB := hid hrb
  have H1 := hid h1
  have R1 := hid r1
  have H2 := hid h2
  have R2 := hid r2
  have HW1 := hid hw1
  have HL1 := hid hl1
  clear ht hb1 hb2 hE2 hra hrb h1 r1 h2 r2 hw1 hl1
  have HN0 : Hid (WF (newP (Int.toNat 1024))) := hid (wf_new (by decide))
  obtain ⟨ga, la, pa, da, sa⟩ := a
  obtain ⟨gb, lb, pb, db, sb⟩ := b
  go_enter Tryd.func4, Tryd.ntmps4
  go_wp2_with fail
  clear hW2
  refine (awake16_any W2 (HT.out.ext HE2.out)).mono ?_
  rintro e w3 ⟨rfl, hx⟩
  have HB31 := hid (hx.obj HB1.out)
  have HB32 := hid (hx.obj HB2.out)
  have HE3 := hid (HE2.out.trans hx)
  have hl1 := (Array.getElem?_eq_some_iff.1 HB31.out).1
  have hl2 := (Array.getElem?_eq_some_iff.1 HB32.out).1
  have HLT1 := hid hl1
  have HLT2 := hid hl2
  obtain ⟨n1, hn1⟩ : ∃ n, w.heap.size = n := ⟨_, rfl⟩
  rw [hn1] at HB31 HB32 HLT1 HLT2
  try rw [hn1]
  obtain ⟨n2, hn2⟩ : ∃ n, n1 + 1 = n := ⟨_, rfl⟩
  rw [hn2] at HB32 HLT2
  try rw [hn2]
  clear hx hl1 hl2 HB1 HB2 HE2 hn1 hn2
  cases ra <;> cases rb
  all_goals
    obtain rfl := e1
    obtain rfl := e2
    simp only [cond_true, cond_false] at H1 R1 H2 R2
    go_wp2_with fail
    refine Calls.mono (dnew_any w3 w3.heap.size (Nat.le_refl _) 1024) ?_
    rintro e w4 ⟨-, h⟩
    obtain ⟨p, x, rfl, d4, x4, -⟩ := h (by decide) (by decide)
    have D4 := hid d4
    have HE4 := hid x4
    clear h d4 x4
    obtain ⟨k0, k1, k2, k3, k4, kf⟩ := blk5 (HE4.out.obj HB31.out)
    go_wp2_with fail
    have hl0 : (newP (Int.toNat 1024)).opn.length ≤ 90000 := Nat.zero_le _
    have hc := write_at H1.out D4.out HE4.out.size HN0.out hl0 (HT.out.ext (HE3.out.trans HE4.out))
    refine hc.mono ?_
    clear hc hl0
    rintro e w5 ⟨rfl, hs⟩
    obtain ⟨x5, d5, b5, -⟩ := hs.keep
    have D5 := hid d5
    have HE5 := hid (HE4.out.below b5)
    clear hs d5 b5 k0 k1 k2 k3 k4 kf D4 HE4
    go_wp2_with fail
    refine Calls.mono (readA_any _ D5.out R1.out (HT.out.ext (HE3.out.trans HE5.out))) ?_
    rintro e w6 ⟨rfl, hx⟩
    have D6 := hid (D5.out.ext hx)
    have HE6 := hid (HE5.out.trans hx)
    obtain ⟨k0, k1, k2, k3, k4, kf⟩ := blk5 (HE6.out.obj HB32.out)
    have c0 := fun o => (Ext.alloc w6 o).cell k0
    have c1 := fun o => (Ext.alloc w6 o).cell k1
    have c2 := fun o => (Ext.alloc w6 o).cell k2
    have c3 := fun o => (Ext.alloc w6 o).cell k3
    have c4 := fun o => (Ext.alloc w6 o).cell k4
    clear hx D5 HE5 k0 k1 k2 k3 k4 kf
    go_wp2_with fail
    clear c0 c1 c2 c3 c4
    have hc := fun o => write_at H2.out (D6.out.ext (Ext.alloc w6 o)) (HE6.out.trans (Ext.alloc w6 o)).size HW1.out HL1.out (HT.out.ext (HE3.out.trans (HE6.out.trans (Ext.alloc w6 o))))
    refine Calls.mono (hc _) ?_
    clear hc
    rintro e w8 ⟨rfl, hs⟩
    obtain ⟨x8, d8, b8, kp⟩ := hs.keep
    obtain ⟨hb, hn⟩ := kp _ _ (heap_alloc_new w6 _) D6.out.new_nin
    have HX8 := hid hb
    have D8 := hid d8
    have HE8 := hid ((HE6.out.trans (Ext.alloc w6 _)).below b8)
    clear hs d8 b8 kp hb hn D6 HE6
    go_wp2_with fail
    refine Calls.mono (readA_any _ D8.out R2.out (HT.out.ext (HE3.out.trans HE8.out))) ?_
    rintro e w9 ⟨rfl, hx⟩
    have HE9 := hid (HE8.out.trans hx)
    have HX9 := hid (hx.obj HX8.out)
    obtain ⟨k0, k1, k2, k3, k4, kf⟩ := blk5 (HE9.out.obj HB31.out)
    have c0 := fun o => (Ext.alloc w9 o).cell k0
    have c1 := fun o => (Ext.alloc w9 o).cell k1
    have c2 := fun o => (Ext.alloc w9 o).cell k2
    have c3 := fun o => (Ext.alloc w9 o).cell k3
    have c4 := fun o => (Ext.alloc w9 o).cell k4
    clear hx D8 HE8 HX8 k0 k1 k2 k3 k4 kf
    go_wp2_with fail
    clear c0 c1 c2 c3 c4
    refine Calls.mono (rt_any ⟨ga, la, pa, da, sa⟩ _) ?_
    rintro e w10 ⟨rfl, hx⟩
    rw [HRA.out]
    have HE10 := hid (HE9.out.trans ((Ext.alloc w9 _).trans hx))
    have HX10 := hid (((Ext.alloc w9 _).trans hx).obj HX9.out)
    have HY10 := hid (hx.obj (heap_alloc_new w9 _))
    obtain ⟨k0, k1, k2, k3, k4, kf⟩ := blk5 (HE10.out.obj HB32.out)
    clear hx HX9 HE9
    go_wp2_with fail
    clear k0 k1 k2 k3 k4 kf
    refine Calls.mono (rt_any ⟨gb, lb, pb, db, sb⟩ _) ?_
    rintro e w11 ⟨rfl, hx⟩
    rw [HRB.out]
    have HE11 := hid (HE10.out.trans hx)
    obtain ⟨a0, a1, a2, a3, a4, af⟩ := blk5 (HE11.out.obj HB31.out)
    obtain ⟨b0, b1, b2, b3, b4, bf⟩ := blk5 (HE11.out.obj HB32.out)
    obtain ⟨i0, i1, i2, i3, i4, jf⟩ := blk5 (hx.obj HX10.out)
    obtain ⟨j0, j1, j2, j3, j4, jf⟩ := blk5 (hx.obj HY10.out)
    clear hx HX10 HY10 HE10 H1 R1 H2 R2
    go_wp2
    go_ret
    exact ⟨rfl, HE3.out.trans HE11.out⟩
end Go.Proofs.YtiblhopjhpflpaaDoor

set_option linter.unusedSimpArgs false
set_option linter.unusedVariables false
set_option maxRecDepth 100000
namespace Go.Proofs.YtiblhopjhpflpaaDoor
open Go Go.RowKit Go.Tum Go.Tum.Crc Go.WideShapes Go.ChangeShapes Go.ChangeAt Go.Deep
/-- What the row's list gives: the table. -/
def tabZ : List Int := [0, 0, 5, 2, 1, 2, 2, 1, 1, 1, 1, 1, 5, 7, 10, 2, 1, 1]
theorem tabZ_at : ∀ i : Fin 18, tabZ.getD i.val 0 = ((manyT.getD i.val 0 : Nat) : Int) := by decide
theorem array5r {α : Type} {cs : Array α} (h : cs.size = 5) : ∃ c0 c1 c2 c3 c4, cs = #[c0, c1, c2, c3, c4] := by
  obtain ⟨l⟩ := cs
  match l, h with
  | [c0, c1, c2, c3, c4], _ => exact ⟨c0, c1, c2, c3, c4, rfl⟩
theorem cellsRoot : Tryd.prog.cellsOf 32 = 5 := by kernel_rfl
theorem cellsCfg : Tryd.prog.cellsOf 30 = 3 := by kernel_rfl
theorem cellsU : Tryd.prog.cellsOf 28 = 1 := by kernel_rfl
theorem cellsI : Tryd.prog.cellsOf 3 = 1 := by kernel_rfl
section
variable {H : Type} {enc : TypeId × Value → H} {w : World} {base : Nat} {held : Bool}
theorem open_root {v : Value} {d : DataW H} {p : List MemPlace} {r : Reach} {b0 : Nat} (hval : Value.okWide Tryd.prog w r b0 32 v) (h : DataW.Trod enc Tryd.prog w base (fun _ => true) held 32 v d p) :
    ∃ x : Rt, v = rtV x := by
  obtain ⟨cs, rfl, hsz⟩ := okWide_struct Tryd.underlying32 hval
  obtain ⟨c0, c1, c2, c3, c4, rfl⟩ := array5r (hsz.trans cellsRoot)
  obtain ⟨fuel, hf⟩ := h
  obtain ⟨y0, y1, y2, n, -, -, h0, h1, h2⟩ := trod_struct3 Tryd.underlying32 hf
  simp only [Value.cells, cellsCfg, cellsU, cellsI, List.drop_zero, List.drop_succ_cons, List.take_succ_cons, List.take_zero] at h0 h1 h2
  obtain ⟨z0, z1, z2, m, -, -, g0, g1, g2⟩ := trod_struct3 Tryd.underlying30 h1
  simp only [cellsI, List.drop_zero, List.drop_succ_cons, List.take_succ_cons, List.take_zero] at g0 g1 g2
  obtain ⟨a0, e0, -, w0⟩ := DataW.trod_int Tryd.underlying28 h0
  obtain ⟨a1, e1, -, w1⟩ := DataW.trod_int Tryd.underlying3 g0
  obtain ⟨a2, e2, -, w2⟩ := DataW.trod_int Tryd.underlying3 g1
  obtain ⟨a3, e3, -, w3⟩ := DataW.trod_int Tryd.underlying3 g2
  obtain ⟨a4, e4, -, w4⟩ := DataW.trod_int Tryd.underlying3 h2
  obtain ⟨u, rfl⟩ := u64_of w0
  simp only [List.cons.injEq, and_true] at e0 e1 e2 e3 e4
  subst e0 e1 e2 e3 e4
  exact ⟨⟨u, a1, a2, a3, a4⟩, rfl⟩
end
end Go.Proofs.YtiblhopjhpflpaaDoor

namespace Go.Proofs.YtiblhopjhpflpaaDoor.rootBack
open Go.ChangeShapes Go.WideShapes Go.ChangeAt Go.RowKit
set_option linter.unusedVariables false
set_option maxRecDepth 100000

theorem own : ownKnob Tryd.prog.godebug = none := by kernel_rfl
theorem kid1 : laidOutB Tryd.prog = true := by kernel_rfl
theorem kid2 : mapsRowed Tryd.prog = true := by kernel_rfl
theorem kid3 : ((List.range Tryd.prog.types.size).all fun t => match Tryd.prog.underlying t with | some (.slice e) => decide (0 < Tryd.prog.cellsOf e) | _ => true) = true := by kernel_rfl
theorem kid4 : ∀ t ∈ Tryd.f4.params.toList, t < Tryd.prog.types.size := by decide +kernel
theorem gTab : Tryd.prog.globalNamed "tumbrel/record.numbers" = some 0 := by kernel_rfl
theorem gTabType : (Tryd.prog.globals[0]?).map (·.type) = some 97 := by kernel_rfl
theorem cellsT : Tryd.prog.cellsOf 97 = 18 := by kernel_rfl
theorem cellsE : Tryd.prog.cellsOf 3 = 1 := by kernel_rfl
theorem table {W : World} (h : laidMetH Tryd.prog Rows.rootBackRow.laid W) : Tab W := by
  have ht : Lib.TabIs Tryd.prog W "tumbrel/record.numbers" .i64 tabZ :=
    Lib.tabIs_of_head (rest := []) gTab gTabType Tryd.underlying97 Tryd.underlying3 cellsE cellsT h
  intro i hi
  rw [← tabZ_at ⟨i, hi⟩]
  exact ht.cell gTab i hi

theorem contract (H : Type) (enc : TypeId × Value → H) (W : World) (base : Nat) (args : Array Value) (ds gs : List (DataW H)) (before : List MemPlace)
    (hval : ∀ (j : Nat) t v, Tryd.f4.params[j]? = some t → args[j]? = some v → Value.okWide Tryd.prog W .any base t v)
    (hW : DataW.Whole enc Tryd.prog Tryd.f4.params.toList Rows.rootBackSpec.vars false W args.toList ds gs before) (hL : laidMetH Tryd.prog Rows.rootBackRow.laid W) :
    Calls Tryd.prog 4 args W fun e W' => ∃ v, e = .returned v ∧ Rows.rootBackSpec.post enc Tryd.prog Tryd.f4 false true false false W args v W' := by
  have hW' := hW
  obtain ⟨p, q, hA0, hV, rfl, hfz, hnd⟩ := hW
  have hA : DataW.TrodAll enc Tryd.prog W 0 (fun _ => true) true Tryd.f4.params.toList args.toList ds p := hA0
  rw [Tryd.params4] at hA hval
  obtain ⟨v0, vs0, d0, ds0, p0, q0, hargs, rfl, rfl, h0, r0⟩ := trodAll_cons hA
  obtain ⟨v1, vs1, d1, ds1, p1, q1, rfl, rfl, rfl, h1, r1⟩ := trodAll_cons r0
  obtain ⟨rfl, rfl, rfl⟩ := trodAll_nil r1
  obtain rfl : args = #[v0, v1] := by cases args; simp_all
  obtain ⟨rfl, rfl⟩ := trodVars_none hV
  obtain ⟨x0, rfl⟩ := open_root (hval 0 32 v0 rfl rfl) h0
  obtain ⟨x1, rfl⟩ := open_root (hval 1 32 v1 rfl rfl) h1
  refine (rootBack_law x0 x1 W (table hL)).mono fun e W' ⟨he, hg⟩ => ?_
  subst he
  exact ⟨_, rfl, Go.Tum.law_post kid1 kid2 kid3 kid4 rfl Tryd.underlying4 hW' rfl rfl hg⟩

/-- A world for the witness: the settled one, the table laid. -/
noncomputable def laidWorld (os : Os) : World :=
  { World.holding Tryd.prog os ⟨#[], #[], []⟩ with heap := (World.holding Tryd.prog os ⟨#[], #[], []⟩).heap.modify 0 fun
      | .cells _ t frozen => .cells (tabZ.map fun z => Value.int .i64 z).toArray t frozen
      | o => o }
theorem laid_met (os : Os) : laidMet Tryd.prog Rows.rootBackRow.laid ((laidWorld os).forCall (fun _ _ => 0) ⟨#[], #[.agg #[.int .u64 0, .int .i64 0, .int .i64 0, .int .i64 0, .int .i64 0], .agg #[.int .u64 0, .int .i64 0, .int .i64 0, .int .i64 0, .int .i64 0]], []⟩).memory :=
  laidMet_of_run' 8 (by kernel_rfl) (by kernel_rfl)
theorem reads (os : Os) {H : Type} (enc : TypeId × Value → H) : ∃ places, DataW.whole enc Tryd.prog ((laidWorld os).forCall (fun _ _ => 0) ⟨#[], #[.agg #[.int .u64 0, .int .i64 0, .int .i64 0, .int .i64 0, .int .i64 0], .agg #[.int .u64 0, .int .i64 0, .int .i64 0, .int .i64 0, .int .i64 0]], []⟩).memory Tryd.f4.params.toList Rows.rootBackSpec.vars false #[Value.agg #[.int .u64 0, .int .i64 0, .int .i64 0, .int .i64 0, .int .i64 0], Value.agg #[.int .u64 0, .int .i64 0, .int .i64 0, .int .i64 0, .int .i64 0]].toList 8 = some ([.agg [.lit (.int .u64 0), .agg [.lit (.int .i64 0), .lit (.int .i64 0), .lit (.int .i64 0)], .lit (.int .i64 0)], .agg [.lit (.int .u64 0), .agg [.lit (.int .i64 0), .lit (.int .i64 0), .lit (.int .i64 0)], .lit (.int .i64 0)]], [], places) :=
  ⟨[], by kernel_rfl⟩

set_option maxRecDepth 100000 in
theorem lifted (os : Os) (started : os.Started) (H : Type) (enc : TypeId × Value → H) (F : Stop.Interp) :
    ReturnsInHanded {} Tryd.checked os 4 .any ((OpenSpec.ofChange Rows.rootBackSpec).preRow enc Tryd.prog Tryd.f4 Rows.rootBackRow.domain false Rows.rootBackRow.laid) (((OpenSpec.ofChange Rows.rootBackSpec).at F).post enc Tryd.prog Tryd.f4 false true false false) := by
  obtain ⟨places, hx⟩ := reads os enc
  refine returnsInHanded_of_row (C := Tryd.checked) (s := OpenSpec.ofChange Rows.rootBackSpec) own started (by kernel_rfl) Tryd.func4
    (witness_row_at (enc := enc) (C := Tryd.checked) false (laidWorld os) #[.agg #[.int .u64 0, .int .i64 0, .int .i64 0, .int .i64 0, .int .i64 0], .agg #[.int .u64 0, .int .i64 0, .int .i64 0, .int .i64 0, .int .i64 0]] rfl (by kernel_rfl) (by kernel_rfl) (by kernel_rfl)
      (OpenSpec.preRow_of_cond 8 hx (by kernel_rfl) (fun k hk => by cases hk) (by kernel_rfl) (laid_met os))) ?_
  intro W base args ds gs before hval hW _ _ _ hL _ _
  exact contract H enc W base args ds gs before hval hW hL

theorem said : Rows.RootBackSaid :=
  OpenClaim.holds_of_cond 4 Tryd.f4 rfl rfl rfl rfl rfl rfl rfl ⟨rfl, rfl, rfl, rfl, rfl⟩ rfl rfl rfl rfl rfl (by kernel_rfl) Tryd.func4 (by kernel_rfl)
    (of_decide_eq_true (by kernel_rfl)) (by unfold Func.isWrapper; first | (rw [if_pos (by decide +kernel)]; kernel_rfl) | (rw [if_neg (by decide +kernel)]; exact ⟨rfl, rfl⟩))
    (fun os started H enc _ F => by rw [OpenClaim.pre_eq_preRow]; exact lifted os started H enc F)

theorem plain (f : FuncId) (fn : Func) (hf : Tryd.pinned.checked.prog.funcNamed "tumbrel/tumbrellaw16.RootBack" = some f) (hfn : Tryd.pinned.checked.prog.funcs[f]? = some fn) :
    true = Tryd.pinned.checked.prog.looks [] ∧ ∀ (j : Nat) t, fn.params[j]? = some t → Tryd.pinned.checked.prog.wantsStandIn t = false := by
  obtain rfl : f = 4 := Option.some.inj ((show Tryd.prog.funcNamed "tumbrel/tumbrellaw16.RootBack" = some 4 by kernel_rfl).symm.trans hf) |>.symm
  obtain rfl : fn = Tryd.f4 := (Option.some.inj (Tryd.func4.symm.trans hfn)).symm
  refine ⟨by kernel_rfl, fun j t ht => ?_⟩
  rw [Tryd.params4] at ht
  have hm := Array.mem_of_getElem? ht
  have hall : ∀ t ∈ Tryd.f4.params.toList, Tryd.prog.wantsStandIn t = false := by decide +kernel
  rw [Tryd.params4] at hall
  exact hall t (by simpa using hm)

theorem proved : Rows.RootBackCardSaid :=
  Claim7.holds_tied_plain_at .later [] _ _ _ _ said (fun _ h => by cases h) (by kernel_rfl) (fun _ h => by cases h) rootBack_row_tie rfl ⟨rfl, rfl⟩ (by kernel_rfl) rfl plain (by kernel_rfl)
end Go.Proofs.YtiblhopjhpflpaaDoor.rootBack

