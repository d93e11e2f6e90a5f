/- For every input the law RootTurned returns true and leaves what was there as it was; and its card.
The root's laws: that it's awake; RootBack.
A root among the arguments, opened.
The root: Read of bytes that hold no record.
A root's bytes turned, or cut: mathematics.
RootTurned: the disk's states. -/
import Derived.Test.YtiblhopjhpflpaaDoorRotMD
import Derived.Test.YtiblhopjhpflpaaDoorDskMJ
import Derived.Test.YtiblhopjhpflpaaDoorDskMK
import Derived.Test.YtiblhopjhpflpaaDoorOpenV
import Derived.Lib.SmallJoins
import Derived.Test.YtiblhopjhpflpaaDoorRotM
import Derived.Test.YtiblhopjhpflpaaDoorFrmT
import Derived.Test.YtiblhopjhpflpaaDoorRef01B
import Derived.Test.YtiblhopjhpflpaaDoorCards
import Derived.Test.YtiblhopjhpflpaaDoorTie
import Derived.WalkKit
import Derived.ProofKit
import Derived.OpenShut
import Derived.Below
import Derived.Deep.DeepHandedRow
import Derived.Lib.LaidTab
import Derived.Test.YtiblhopjhpflpaaDoorFrame
set_option linter.unusedSimpArgs false
set_option linter.unusedVariables false
set_option maxRecDepth 100000
namespace Go.Proofs.YtiblhopjhpflpaaDoor
open Go Go.RowKit Go.Tum Go.ChangeMaps Go.Tum.Crc

/-- A step of the disk: what lies elsewhere stays, and stays elsewhere. -/
theorem Stp.keep {B : Nat} {w w' : World} {p : Nat} {x : DX} {s : PS} (h : Stp B w p x s w') :
    ∃ x', Dk B w' p x' s ∧ Below B w w' ∧ ∀ b o, w.heap[b]? = some o → b ∉ x.blk p → w'.heap[b]? = some o ∧ b ∉ x'.blk p := by
  obtain ⟨x', d, f, bl, q⟩ := h
  refine ⟨x', d, bl, fun b o hb hn => ⟨fr_at16 f hb hn, fun hm => ?_⟩⟩
  have hl := (Array.getElem?_eq_some_iff.1 hb).1
  rcases q b hm with h1 | h1
  · exact hn h1
  · omega
theorem Dk.new_nin {B : Nat} {w : World} {p : Nat} {x : DX} {s : PS} (h : Dk B w p x s) : w.heap.size ∉ x.blk p := fun hm => by have := h.lt16 _ hm; omega
/-- What is read of a disk. -/
def RdS (s : PS) : Option Rt → Prop
  | none => rdE s nRoot = 5
  | some r => rdE s nRoot = 0 ∧ rdB s nRoot = rtBytes r ∧ rtB r = true
theorem readA_any {B : Nat} {w : World} {p : Nat} {x : DX} {s : PS} (o : Option Rt) (h : Dk B w p x s) (ho : RdS s o) (ht : Tab w) :
    Calls Tryd.prog 12 #[pv p] w fun e w' => e = .returned (.tuple #[rtV (o.getD rt0), .int .i64 (if o.isSome then 0 else 5)]) ∧ Ext w w' := by
  cases o with
  | none => exact readN_any h ho
  | some r => exact readR_any r h ho.1 ho.2.1 ho.2.2 ht
theorem rds_new (n : Nat) : RdS (newP n) none := rfl
theorem rds_A1 (n : Nat) {r : Rt} (h : rtB r = true) : RdS (A1 n (rtBytes r)) (some r) := ⟨rfl, by rfl, h⟩
theorem rds_A2 (n : Nat) (b : List UInt8) {r : Rt} (h : rtB r = true) : RdS (A2 n b (rtBytes r)) (some r) := ⟨rfl, by rfl, h⟩
theorem wr_no {s : PS} {r : Rt} (h : rtB r = false) : wrP s r = (1, s) := by unfold wrP; rw [h]; rfl
theorem wf_seq : ∀ (l : List (PS → Nat × PS)) (s : PS), WF s → (∀ f ∈ l, ∀ s, WF s → WF (f s).2) → WF (seqP l s).2
  | [], _, h, _ => h
  | f :: r, s, h, k => by
    rw [seqP_cons]
    have h1 := k f (by simp) s h
    split
    · exact wf_seq r _ h1 fun g hg => k g (List.mem_cons_of_mem _ hg)
    · exact h1
theorem wf_wr {s : PS} (h : WF s) (r : Rt) : WF (wrP s r).2 := by
  unfold wrP
  split
  · refine wf_seq _ _ h ?_
    unfold wrOps
    intro f hf s hs
    simp only [List.mem_cons, List.not_mem_nil, or_false] at hf
    rcases hf with rfl | rfl | rfl | rfl | rfl | rfl
    · exact hs.delT _
    · exact hs.cre _
    · exact hs.app _ _
    · exact hs.syn _
    · exact hs.ren _ _
    · exact hs.dsy
  · exact h
abbrev rA : Rt := ⟨3, 2, 5, 1, 64⟩
theorem vec_none (w : World) : Vec Go.Tum.iv w (.slice none 0 0) [] := Vec.nil _
set_option maxHeartbeats 4000000 in
theorem awake16_any (w : World) (ht : Tab w) : Calls Tryd.prog 6 #[] w fun e w' => e = .returned (.bool true) ∧ Ext w w' := by
  have HT := hid ht
  have hc := dnew_any w w.heap.size (Nat.le_refl _) 200
  have HC := hid hc
  clear ht hc
  go_enter Tryd.func6, Tryd.ntmps6
  go_wp2_with fail
  refine HC.out.mono ?_
  rintro e w1 ⟨-, h⟩
  obtain ⟨p, x, rfl, d1, x1, q1⟩ := h (by decide) (by decide)
  have D1 := hid d1
  have HE1 := hid x1
  clear h d1 x1 q1 HC
  go_wp2_with fail
  refine (readA_any none D1.out (rds_new _) (HT.out.ext HE1.out)).mono ?_
  rintro e w2 ⟨rfl, hx⟩
  have HE2 := hid (HE1.out.trans hx)
  have D2 := hid (D1.out.ext hx)
  clear hx HE1 D1
  obtain ⟨W3, hW3⟩ : ∃ W, w2.alloc (rtO rt0) = W := ⟨_, rfl⟩
  have HW3 := hid hW3
  obtain ⟨W4, hW4⟩ : ∃ W, W3.alloc (rtO rA) = W := ⟨_, rfl⟩
  have HW4 := hid hW4
  have hE3 : Ext w2 W3 := by rw [← hW3]; exact Ext.alloc _ _
  have hE4 : Ext W3 W4 := by rw [← hW4]; exact Ext.alloc _ _
  have hb := heap_alloc_new W3 (rtO rA)
  rw [hW4] at hb
  have D3 := hid (D2.out.ext hE3)
  have D4 := hid (D3.out.ext hE4)
  have HN4 := hid D3.out.new_nin
  have HE4 := hid (HE2.out.trans (hE3.trans hE4))
  have HB4 := hid hb
  clear hE3 hE4 D2 D3 HE2
  obtain ⟨k0, k1, k2, k3, k4, kf⟩ := blk5 hb
  clear hb
  go_wp2_with fail
  have hW4' : W3.alloc (.cells #[.int .u64 3, .int .i64 2, .int .i64 5, .int .i64 1, .int .i64 64] 32 (0, 0)) = W4 := hW4
  rw [hW4']
  clear hW4 hW4' hW3 HW3 HW4 k0 k1 k2 k3 k4 kf
  have hW : wrP (newP (Int.toNat 200)) rA = (0, A1 (Int.toNat 200) (rtBytes rA)) := wr0 (by decide) (by decide +kernel)
  have hwf : WF (newP (Int.toNat 200)) := wf_new (by decide)
  have hw1 := wf_wr hwf rA
  rw [hW] at hw1
  have HWA := hid hw1
  have hc := write_any rA D4.out HE4.out.size hwf (by decide) (HT.out.ext HE4.out)
  rw [hW] at hc
  clear hW hwf hw1
  refine hc.mono ?_
  clear hc
  rintro e w5 ⟨rfl, hs⟩
  obtain ⟨x5, d5, b5, kp⟩ := hs.keep
  obtain ⟨hb, hn⟩ := kp _ _ HB4.out HN4.out
  have HB5 := hid hb
  have HN5 := hid hn
  have D5 := hid d5
  have HE5 := hid (HE4.out.below b5)
  clear kp hs hb hn d5 b5 D4 HE4 HB4 HN4
  go_wp2_with fail
  have hc := dcrash_any 0 [] none 0 D5.out HE5.out.size (vec_none _) (by simp) (by simp) (HWA.out.cra 0 []).gd
  rw [cr1] at hc
  refine Calls.mono hc ?_
  clear hc
  rintro e w6 ⟨⟨u, rfl⟩, hs⟩
  obtain ⟨x6, d6, b6, kp⟩ := hs.keep
  obtain ⟨hb, hn⟩ := kp _ _ HB5.out HN5.out
  have HB6 := hid hb
  have HN6 := hid hn
  have D6 := hid d6
  have HE6 := hid (HE5.out.below b6)
  clear kp hs hb hn d6 b6 D5 HE5 HB5 HN5
  go_wp2_with fail
  refine (readA_any (some rA) D6.out (rds_A1 _ (by decide)) (HT.out.ext HE6.out)).mono ?_
  rintro e w7 ⟨rfl, hx⟩
  have HE7 := hid (HE6.out.trans (hx.trans (Ext.alloc w7 (rtO rA))))
  have D7 := hid (D6.out.ext (hx.trans (Ext.alloc w7 (rtO rA))))
  obtain ⟨k0, k1, k2, k3, k4, kf⟩ := blk5 (hx.obj HB6.out)
  have c0 := fun o => (Ext.alloc w7 o).cell k0
  have c1 := fun o => (Ext.alloc w7 o).cell k1
  have c2 := fun o => (Ext.alloc w7 o).cell k2
  have c3 := fun o => (Ext.alloc w7 o).cell k3
  have c4 := fun o => (Ext.alloc w7 o).cell k4
  clear hx D6 HE6 HB6 HN6
  go_wp2_with fail
  refine Calls.mono (rt_any rA _) ?_
  rintro e w8 ⟨rfl, hx⟩
  have D8 := hid (D7.out.ext hx)
  have HE8 := hid (HE7.out.trans hx)
  clear hx k0 k1 k2 k3 k4 kf c0 c1 c2 c3 c4 D7 HE7
  have hrb : rtB rA = true := by decide
  rw [hrb]
  clear hrb
  go_wp2_with fail
  have hc := write_any rt0 D8.out HE8.out.size HWA.out (by decide) (HT.out.ext HE8.out)
  rw [wr_no (by decide)] at hc
  refine Calls.mono hc ?_
  clear hc
  rintro e w9 ⟨rfl, hs⟩
  obtain ⟨x9, d9, b9, kp⟩ := hs.keep
  have HE9 := hid (HE8.out.below b9)
  clear hs d9 b9 kp
  go_wp2
  go_ret
  exact ⟨rfl, HE9.out⟩
theorem Below.at16 {B : Nat} {w w' : World} (h : Below B w w') {b : Nat} {o : Obj} (hb : w.heap[b]? = some o) (hl : b < B) : w'.heap[b]? = some o := (h.block b hl).trans hb
theorem write_at {B : Nat} {w : World} {p : Nat} {x : DX} {s s' : PS} {r : Rt} {c : Nat} (hq : wrP s r = (c, s')) (h : Dk B w p x s) (hB : B ≤ w.heap.size) (hw : WF s) (hl : s.opn.length ≤ 90000) (ht : Tab w) :
    Calls Tryd.prog 8 #[pv p, rtV r] w fun e w' => e = .returned (.int .i64 (c : Int)) ∧ Stp B w p x s' w' := by
  have := write_any r h hB hw hl ht
  rw [hq] at this
  exact this
theorem two_wr (a b : Rt) : ∃ s1 s2 o1 o2, wrP (newP (Int.toNat 1024)) a = (cond (rtB a) 0 1, s1) ∧ RdS s1 o1 ∧ o1 = cond (rtB a) (some a) none ∧ wrP s1 b = (cond (rtB b) 0 1, s2) ∧ RdS s2 o2 ∧ o2 = cond (rtB b) (some b) o1 ∧ WF s1 ∧ s1.opn.length ≤ 90000 := by
  have hn : WF (newP (Int.toNat 1024)) := wf_new (by decide)
  have la := rt_len a
  have lb := rt_len b
  have hwa := wf_wr hn a
  cases ha : rtB a with
  | false =>
    cases hb : rtB b with
    | false => exact ⟨_, _, _, _, wr_no ha, rds_new _, rfl, wr_no hb, rds_new _, rfl, hn, by decide⟩
    | true => exact ⟨_, _, _, _, wr_no ha, rds_new _, rfl, wr0 hb (by have : Int.toNat 1024 = 1024 := rfl; omega), rds_A1 _ hb, rfl, hn, by decide⟩
  | true =>
    have h1 : wrP (newP (Int.toNat 1024)) a = (0, A1 (Int.toNat 1024) (rtBytes a)) := wr0 ha (by have : Int.toNat 1024 = 1024 := rfl; omega)
    rw [h1] at hwa
    cases hb : rtB b with
    | false => exact ⟨_, _, _, _, h1, rds_A1 _ ha, rfl, wr_no hb, rds_A1 _ ha, rfl, hwa, Nat.zero_le _⟩
    | true => exact ⟨_, _, _, _, h1, rds_A1 _ ha, rfl, wr1 hb (by have : Int.toNat 1024 = 1024 := rfl; omega), rds_A2 _ _ hb, rfl, hwa, Nat.zero_le _⟩
set_option maxHeartbeats 8000000 in
theorem rootBack_law (a b : Rt) (w : World) (ht : Tab w) : Calls Tryd.prog 4 #[rtV a, rtV b] w fun e w' => e = .returned (.bool true) ∧ Ext w w' := by
  have HT := hid ht
  obtain ⟨W2, hW2⟩ : ∃ W, (w.alloc (rtO a)).alloc (rtO b) = W := ⟨_, rfl⟩
  have hb1 := (Ext.alloc (w.alloc (rtO a)) (rtO b)).obj (heap_alloc_new w (rtO a))
  have hb2 := heap_alloc_new (w.alloc (rtO a)) (rtO b)
  rw [World.size_alloc] at hb2
  have hE2 := (Ext.alloc w (rtO a)).trans (Ext.alloc (w.alloc (rtO a)) (rtO b))
  rw [hW2] at hb1 hb2 hE2
  have HB1 := hid hb1
  have HB2 := hid hb2
  have HE2 := hid hE2
  obtain ⟨s1, s2, o1, o2, h1, r1, e1, h2, r2, e2, hw1, hl1⟩ := two_wr a b
  obtain ⟨ra, hra⟩ : ∃ r, rtB a = r := ⟨_, rfl⟩
  obtain ⟨rb, hrb⟩ : ∃ r, rtB b = r := ⟨_, rfl⟩
  rw [hra] at h1 e1
  rw [hrb] at h2 e2
  have HRA := hid hra
  have HRB := hid hrb
  have H1 := hid h1
  have R1 := hid r1
  have H2 := hid h2
  have R2 := hid r2
  have HW1 := hid hw1
  have HL1 := hid hl1
  clear ht hb1 hb2 hE2 hra hrb h1 r1 h2 r2 hw1 hl1
  have HN0 : Hid (WF (newP (Int.toNat 1024))) := hid (wf_new (by decide))
  obtain ⟨ga, la, pa, da, sa⟩ := a
  obtain ⟨gb, lb, pb, db, sb⟩ := b
  go_enter Tryd.func4, Tryd.ntmps4
  go_wp2_with fail
  clear hW2
  refine (awake16_any W2 (HT.out.ext HE2.out)).mono ?_
  rintro e w3 ⟨rfl, hx⟩
  have HB31 := hid (hx.obj HB1.out)
  have HB32 := hid (hx.obj HB2.out)
  have HE3 := hid (HE2.out.trans hx)
  have hl1 := (Array.getElem?_eq_some_iff.1 HB31.out).1
  have hl2 := (Array.getElem?_eq_some_iff.1 HB32.out).1
  have HLT1 := hid hl1
  have HLT2 := hid hl2
  obtain ⟨n1, hn1⟩ : ∃ n, w.heap.size = n := ⟨_, rfl⟩
  rw [hn1] at HB31 HB32 HLT1 HLT2
  try rw [hn1]
  obtain ⟨n2, hn2⟩ : ∃ n, n1 + 1 = n := ⟨_, rfl⟩
  rw [hn2] at HB32 HLT2
  try rw [hn2]
  clear hx hl1 hl2 HB1 HB2 HE2 hn1 hn2
  cases ra <;> cases rb
  all_goals
    obtain rfl := e1
    obtain rfl := e2
    simp only [cond_true, cond_false] at H1 R1 H2 R2
    go_wp2_with fail
    refine Calls.mono (dnew_any w3 w3.heap.size (Nat.le_refl _) 1024) ?_
    rintro e w4 ⟨-, h⟩
    obtain ⟨p, x, rfl, d4, x4, -⟩ := h (by decide) (by decide)
    have D4 := hid d4
    have HE4 := hid x4
    clear h d4 x4
    obtain ⟨k0, k1, k2, k3, k4, kf⟩ := blk5 (HE4.out.obj HB31.out)
    go_wp2_with fail
    have hl0 : (newP (Int.toNat 1024)).opn.length ≤ 90000 := Nat.zero_le _
    have hc := write_at H1.out D4.out HE4.out.size HN0.out hl0 (HT.out.ext (HE3.out.trans HE4.out))
    refine hc.mono ?_
    clear hc hl0
    rintro e w5 ⟨rfl, hs⟩
    obtain ⟨x5, d5, b5, -⟩ := hs.keep
    have D5 := hid d5
    have HE5 := hid (HE4.out.below b5)
    clear hs d5 b5 k0 k1 k2 k3 k4 kf D4 HE4
    go_wp2_with fail
    refine Calls.mono (readA_any _ D5.out R1.out (HT.out.ext (HE3.out.trans HE5.out))) ?_
    rintro e w6 ⟨rfl, hx⟩
    have D6 := hid (D5.out.ext hx)
    have HE6 := hid (HE5.out.trans hx)
    obtain ⟨k0, k1, k2, k3, k4, kf⟩ := blk5 (HE6.out.obj HB32.out)
    have c0 := fun o => (Ext.alloc w6 o).cell k0
    have c1 := fun o => (Ext.alloc w6 o).cell k1
    have c2 := fun o => (Ext.alloc w6 o).cell k2
    have c3 := fun o => (Ext.alloc w6 o).cell k3
    have c4 := fun o => (Ext.alloc w6 o).cell k4
    clear hx D5 HE5 k0 k1 k2 k3 k4 kf
    go_wp2_with fail
    clear c0 c1 c2 c3 c4
    have hc := fun o => write_at H2.out (D6.out.ext (Ext.alloc w6 o)) (HE6.out.trans (Ext.alloc w6 o)).size HW1.out HL1.out (HT.out.ext (HE3.out.trans (HE6.out.trans (Ext.alloc w6 o))))
    refine Calls.mono (hc _) ?_
    clear hc
    rintro e w8 ⟨rfl, hs⟩
    obtain ⟨x8, d8, b8, kp⟩ := hs.keep
    obtain ⟨hb, hn⟩ := kp _ _ (heap_alloc_new w6 _) D6.out.new_nin
    have HX8 := hid hb
    have D8 := hid d8
    have HE8 := hid ((HE6.out.trans (Ext.alloc w6 _)).below b8)
    clear hs d8 b8 kp hb hn D6 HE6
    go_wp2_with fail
    refine Calls.mono (readA_any _ D8.out R2.out (HT.out.ext (HE3.out.trans HE8.out))) ?_
    rintro e w9 ⟨rfl, hx⟩
    have HE9 := hid (HE8.out.trans hx)
    have HX9 := hid (hx.obj HX8.out)
    obtain ⟨k0, k1, k2, k3, k4, kf⟩ := blk5 (HE9.out.obj HB31.out)
    have c0 := fun o => (Ext.alloc w9 o).cell k0
    have c1 := fun o => (Ext.alloc w9 o).cell k1
    have c2 := fun o => (Ext.alloc w9 o).cell k2
    have c3 := fun o => (Ext.alloc w9 o).cell k3
    have c4 := fun o => (Ext.alloc w9 o).cell k4
    clear hx D8 HE8 HX8 k0 k1 k2 k3 k4 kf
    go_wp2_with fail
    clear c0 c1 c2 c3 c4
    refine Calls.mono (rt_any ⟨ga, la, pa, da, sa⟩ _) ?_
    rintro e w10 ⟨rfl, hx⟩
    rw [HRA.out]
    have HE10 := hid (HE9.out.trans ((Ext.alloc w9 _).trans hx))
    have HX10 := hid (((Ext.alloc w9 _).trans hx).obj HX9.out)
    have HY10 := hid (hx.obj (heap_alloc_new w9 _))
    obtain ⟨k0, k1, k2, k3, k4, kf⟩ := blk5 (HE10.out.obj HB32.out)
    clear hx HX9 HE9
    go_wp2_with fail
    clear k0 k1 k2 k3 k4 kf
    refine Calls.mono (rt_any ⟨gb, lb, pb, db, sb⟩ _) ?_
    rintro e w11 ⟨rfl, hx⟩
    rw [HRB.out]
    have HE11 := hid (HE10.out.trans hx)
    obtain ⟨a0, a1, a2, a3, a4, af⟩ := blk5 (HE11.out.obj HB31.out)
    obtain ⟨b0, b1, b2, b3, b4, bf⟩ := blk5 (HE11.out.obj HB32.out)
    obtain ⟨i0, i1, i2, i3, i4, jf⟩ := blk5 (hx.obj HX10.out)
    obtain ⟨j0, j1, j2, j3, j4, jf⟩ := blk5 (hx.obj HY10.out)
    clear hx HX10 HY10 HE10 H1 R1 H2 R2
    go_wp2
    go_ret
    exact ⟨rfl, HE3.out.trans HE11.out⟩
end Go.Proofs.YtiblhopjhpflpaaDoor

set_option linter.unusedSimpArgs false
set_option linter.unusedVariables false
set_option maxRecDepth 100000
namespace Go.Proofs.YtiblhopjhpflpaaDoor
open Go Go.RowKit Go.Tum Go.Tum.Crc Go.WideShapes Go.ChangeShapes Go.ChangeAt Go.Deep
/-- What the row's list gives: the table. -/
def tabZ : List Int := [0, 0, 5, 2, 1, 2, 2, 1, 1, 1, 1, 1, 5, 7, 10, 2, 1, 1]
theorem tabZ_at : ∀ i : Fin 18, tabZ.getD i.val 0 = ((manyT.getD i.val 0 : Nat) : Int) := by decide
theorem array5r {α : Type} {cs : Array α} (h : cs.size = 5) : ∃ c0 c1 c2 c3 c4, cs = #[c0, c1, c2, c3, c4] := by
  obtain ⟨l⟩ := cs
  match l, h with
  | [c0, c1, c2, c3, c4], _ => exact ⟨c0, c1, c2, c3, c4, rfl⟩
theorem cellsRoot : Tryd.prog.cellsOf 32 = 5 := by kernel_rfl
theorem cellsCfg : Tryd.prog.cellsOf 30 = 3 := by kernel_rfl
theorem cellsU : Tryd.prog.cellsOf 28 = 1 := by kernel_rfl
theorem cellsI : Tryd.prog.cellsOf 3 = 1 := by kernel_rfl
section
variable {H : Type} {enc : TypeId × Value → H} {w : World} {base : Nat} {held : Bool}
theorem open_root {v : Value} {d : DataW H} {p : List MemPlace} {r : Reach} {b0 : Nat} (hval : Value.okWide Tryd.prog w r b0 32 v) (h : DataW.Trod enc Tryd.prog w base (fun _ => true) held 32 v d p) :
    ∃ x : Rt, v = rtV x := by
  obtain ⟨cs, rfl, hsz⟩ := okWide_struct Tryd.underlying32 hval
  obtain ⟨c0, c1, c2, c3, c4, rfl⟩ := array5r (hsz.trans cellsRoot)
  obtain ⟨fuel, hf⟩ := h
  obtain ⟨y0, y1, y2, n, -, -, h0, h1, h2⟩ := trod_struct3 Tryd.underlying32 hf
  simp only [Value.cells, cellsCfg, cellsU, cellsI, List.drop_zero, List.drop_succ_cons, List.take_succ_cons, List.take_zero] at h0 h1 h2
  obtain ⟨z0, z1, z2, m, -, -, g0, g1, g2⟩ := trod_struct3 Tryd.underlying30 h1
  simp only [cellsI, List.drop_zero, List.drop_succ_cons, List.take_succ_cons, List.take_zero] at g0 g1 g2
  obtain ⟨a0, e0, -, w0⟩ := DataW.trod_int Tryd.underlying28 h0
  obtain ⟨a1, e1, -, w1⟩ := DataW.trod_int Tryd.underlying3 g0
  obtain ⟨a2, e2, -, w2⟩ := DataW.trod_int Tryd.underlying3 g1
  obtain ⟨a3, e3, -, w3⟩ := DataW.trod_int Tryd.underlying3 g2
  obtain ⟨a4, e4, -, w4⟩ := DataW.trod_int Tryd.underlying3 h2
  obtain ⟨u, rfl⟩ := u64_of w0
  simp only [List.cons.injEq, and_true] at e0 e1 e2 e3 e4
  subst e0 e1 e2 e3 e4
  exact ⟨⟨u, a1, a2, a3, a4⟩, rfl⟩
end
end Go.Proofs.YtiblhopjhpflpaaDoor

set_option linter.unusedSimpArgs false
set_option linter.unusedVariables false
set_option maxRecDepth 100000
namespace Go.Proofs.YtiblhopjhpflpaaDoor
open Go Go.RowKit Go.Tum Go.ChangeMaps Go.Tum.Crc
set_option maxHeartbeats 4000000 in
theorem readE_any {B : Nat} {w : World} {p : Nat} {x : DX} {s : PS} (b : List UInt8) (c : Int) (h : Dk B w p x s) (hr : rdE s nRoot = 0) (hb : rdB s nRoot = b) (hbl : b.length ≤ 411) (ht : Tab w) (hra : rall 0 b = ([], [], c)) :
    Calls Tryd.prog 12 #[pv p] w fun e w' => e = .returned (.tuple #[rtV rt0, .int .i64 (if c = 0 then 2 else c)]) ∧ Ext w w' := by
  have hc := dread_any nRoot nl.2 (h.ext (Ext.alloc w zr))
  unfold ReadP at hc
  rw [hr, hb] at hc
  have HC := hid hc
  have hE := Ext.alloc w zr
  have HB := hid (heap_alloc_new w zr)
  have HE := hid hE
  have HT := hid ht
  have HBL := hid hbl
  have HRA := hid hra
  clear h hr hc hE hb ht hbl hra
  go_enter Tryd.func12, Tryd.ntmps12
  go_wp2_with fail
  refine HC.out.mono ?_
  rintro e w2 ⟨⟨v, rfl, ho⟩, hx⟩
  have HB2 := hid (hx.obj HB.out)
  have HE2 := hid (HE.out.trans hx)
  have HO := hid ho
  obtain ⟨vo, vc, hve⟩ := ho.owv.shape
  obtain ⟨nb, hnb⟩ : ∃ n, b.length = n := ⟨_, rfl⟩
  rw [hnb] at hve
  subst hve
  clear hx ho hnb HB HE
  go_wp2_with fail
  have hc := all5_any _ _ w2 HO.out.byt (by have := HBL.out; omega) (HT.out.ext HE2.out)
  unfold AllR5 at hc
  rw [HRA.out] at hc
  refine hc.mono ?_
  clear hc
  rintro e w3 ⟨v1, v2, rfl, hrc, hiv, hx⟩
  obtain ⟨io, ic, rfl⟩ := hiv.shape
  obtain ⟨m, hm, hrow, hns⟩ := hrc
  obtain rfl : m = [] := by
    match m, hm with
    | [], _ => rfl
  obtain ⟨ro, rc, rfl⟩ : ∃ o cap, v1 = .slice o 0 cap := by
    have hrow2 : w3.ownsRow w2.heap.size 61 3 v1 0 [] := hrow
    rcases hrow2.2 with ⟨hv, h0⟩ | ⟨g, c, cur, hv, hb, hgg, h1, h2, -⟩
    · exact ⟨_, _, hv⟩
    · exact ⟨_, _, hv⟩
  have HB3 := hid (hx.obj HB2.out)
  have HE3 := hid (HE2.out.trans hx)
  obtain ⟨k0, k1, k2, k3, k4, kf⟩ := blk5 HB3.out
  clear hx hrow hns hiv hm HB2 HE2 HO HC
  by_cases h0 : c = 0
  · subst h0
    go_wp2
    refine bodyPost_ret (rread_results _ _ _ _ _ _ _ _ rfl (set5 HB3.out _ _ _ _ _)) rfl ?_
    exact ⟨rfl, ext5 _ _ _ _ _ HE3.out (Nat.le_refl _)⟩
  · have hc0 : (c == 0) = false := by rw [beq_eq_false_iff_ne]; exact h0
    have H0 := hid h0
    clear h0
    go_wp2
    refine bodyPost_ret (rread_results _ _ _ _ _ _ _ _ rfl (set5 HB3.out _ _ _ _ _)) rfl ?_
    exact ⟨rfl, ext5 _ _ _ _ _ HE3.out (Nat.le_refl _)⟩
end Go.Proofs.YtiblhopjhpflpaaDoor

set_option linter.unusedSimpArgs false
set_option linter.unusedVariables false
namespace Go.Tum.Crc
open Go.Tum
/-- A beginning of a frame, turned or not, is none. -/
theorem fread_cut (x : Fr) (hx : x.body.length ≤ 400) (at_ : Int) (t : Nat) (k : Nat) (hk : k < (fbytes x).length) :
    (fread ((turnN at_ t (fbytes x) 32).take k)).2.2 ≠ 0 := by
  have hlen := fbytes_length x
  have hpl := turnN_length at_ t (fbytes x) 32
  unfold fread
  by_cases h7 : k < 7
  · rw [if_pos (by simp; omega)]
    decide
  have h1 := turnN_take at_ t (fbytes x) 7 (by omega) 32
  have e1 : (fbytes x).take 7 = put (hd x) := by simpa using fbytes_head x []
  rw [e1] at h1
  have hA : ((turnN at_ t (fbytes x) 32).take k).take 7 = turnN at_ t (put (hd x)) 32 := by
    rw [List.take_take, Nat.min_eq_left (by omega), h1]
  rw [if_neg (by simp; omega), hA]
  by_cases hh : turnN at_ t (put (hd x)) 32 = put (hd x)
  · rw [hh, if_neg (by simp [isPut_put])]
    rw [hh] at hA
    have hf := flen_of hA hx
    rw [hf, if_neg (by omega), if_pos (by simp; omega)]
    decide
  · rw [if_pos (burst _ _ _ (isPut_put _) hh)]
    decide
end Go.Tum.Crc
namespace Go.Proofs.YtiblhopjhpflpaaDoor
open Go Go.RowKit Go.Tum Go.Tum.Crc
theorem rall_turned (r : Rt) (at_ : Int) (t : Nat) (hne : turnN at_ t (rtBytes r) 32 ≠ rtBytes r) : rall 0 (turnN at_ t (rtBytes r) 32) = ([], [], 8) := by
  have h := fread_turned (recFr (rtRec r)) (body_le (rt_rec r)) at_ t [] hne
  rw [List.append_nil] at h
  have h' : fread (turnN at_ t (rtBytes r) 32) = (f0, 0, 8) := h
  have hb : turnN at_ t (rtBytes r) 32 ≠ [] := by
    intro e
    have h1 := turnN_length at_ t (rtBytes r) 32
    have h2 := rt_len r
    rw [e] at h1
    simp at h1
    omega
  rw [rall_bad hb (by rw [h']; decide), h']
theorem rall_cut (r : Rt) (at_ : Int) (t k : Nat) (hk : k < (rtBytes r).length) : ∃ c : Int, rall 0 ((turnN at_ t (rtBytes r) 32).take k) = ([], [], c) := by
  by_cases h0 : (turnN at_ t (rtBytes r) 32).take k = []
  · rw [h0]
    exact ⟨0, rall_nil 0⟩
  · exact ⟨_, rall_bad h0 (fread_cut (recFr (rtRec r)) (body_le (rt_rec r)) at_ t k hk)⟩
end Go.Proofs.YtiblhopjhpflpaaDoor

set_option linter.unusedSimpArgs false
set_option linter.unusedVariables false
set_option maxRecDepth 100000
namespace Go.Proofs.YtiblhopjhpflpaaDoor
open Go Go.RowKit Go.Tum Go.ChangeMaps Go.Tum.Crc
/-- A disk with a root of other bytes. -/
def A1s (n : Nat) (c : List UInt8) (m : Nat) : PS := ⟨n, [(c, m)], [(nRoot, 0)], [], -1, false⟩
theorem A1s_eq (n : Nat) (b : List UInt8) : A1 n b = A1s n b b.length := rfl
theorem cut_A (n : Nat) (c : List UInt8) (m : Nat) (k : Int) (h0 : 0 ≤ k) (h1 : k ≤ c.length) : cutP (A1s n c m) nRoot k = (0, A1s n (c.take k.toNat) (min m k.toNat)) := by
  have hE : cutE (A1s n c m) nRoot k = 0 := by
    have hl : look (A1s n c m).dir nRoot = some 0 := rfl
    unfold cutE
    rw [hl]
    dsimp only
    rw [if_neg]
    show ¬ (k < 0 ∨ ((c.length : Nat) : Int) < k)
    omega
  unfold cutP
  rw [hE]
  rfl
theorem app_A (n m : Nat) (c : List UInt8) (h : c.length ≤ n) : appP (A1s n [] m) nRoot c = (0, A1s n c m) := by
  have hE : appE (A1s n [] m) nRoot c = 0 := by
    have hl : ¬ look (A1s n [] m).dir nRoot = none := fun h => absurd (show (some 0 : Option Nat) = none from h) (by decide)
    unfold appE
    rw [if_neg hl, if_neg]
    show ¬ n < (0 + 0) + c.length
    omega
  unfold appP
  rw [hE]
  rfl
theorem rd_A (n m : Nat) (c : List UInt8) : rdE (A1s n c m) nRoot = 0 ∧ rdB (A1s n c m) nRoot = c := ⟨rfl, rfl⟩
theorem row_lt16 {w : World} {b e s n : Nat} {v : Value} {xs : List Value} (h : w.ownsRow b e s v n xs) : ∀ q ∈ oB v, q < w.heap.size := by
  intro q hm
  rcases h.2 with ⟨hv, -⟩ | ⟨g, cap, cur, hv, hb, hgg, rest⟩
  · rw [hv] at hm; simp [oB, Value.ownBlock] at hm
  · rw [hv] at hm
    simp [oB, Value.ownBlock] at hm
    subst hm; exact (Array.getElem?_eq_some_iff.1 hgg).1
/-- A step of the disk: bytes that lie elsewhere stay, and stay elsewhere. -/
theorem Stp.keepB {B : Nat} {w w' : World} {p : Nat} {x : DX} {s : PS} (h : Stp B w p x s w') :
    ∃ x', Dk B w' p x' s ∧ Below B w w' ∧ (∀ b o, w.heap[b]? = some o → b ∉ x.blk p → w'.heap[b]? = some o ∧ b ∉ x'.blk p) ∧
      ∀ g v l, Own w g 5 v l → (∀ q ∈ oB v, q ∉ x.blk p) → Own w' g 5 v l ∧ ∀ q ∈ oB v, q ∉ x'.blk p := by
  obtain ⟨x', d, f, bl, q⟩ := h
  refine ⟨x', d, bl, fun b o hb hn => ⟨fr_at16 f hb hn, fun hm => ?_⟩, fun g v l ho hn => ⟨ownsRow_fr ho f hn, fun b hb hm => ?_⟩⟩
  · have hl := (Array.getElem?_eq_some_iff.1 hb).1
    rcases q b hm with h1 | h1
    · exact hn h1
    · omega
  · rcases q b hm with h1 | h1
    · exact hn b hb h1
    · have := row_lt16 ho b hb
      omega
theorem cut_A0 (n : Nat) (c : List UInt8) (m : Nat) : cutP (A1s n c m) nRoot 0 = (0, A1s n [] 0) := by
  have := cut_A n c m 0 (Int.le_refl _) (by omega)
  simpa using this
theorem readX_any {B : Nat} {w : World} {p : Nat} {x : DX} (n m : Nat) (r : Rt) (at_ : Int) (t : Nat) (h : Dk B w p x (A1s n (turnN at_ t (rtBytes r) 32) m)) (hrt : rtB r = true) (ht : Tab w) :
    Calls Tryd.prog 12 #[pv p] w fun e w' => e = .returned (.tuple #[rtV (if (rtBytes r == turnN at_ t (rtBytes r) 32) = true then r else rt0), .int .i64 (if (rtBytes r == turnN at_ t (rtBytes r) 32) = true then 0 else 8)]) ∧ Ext w w' := by
  by_cases hq : turnN at_ t (rtBytes r) 32 = rtBytes r
  · rw [if_pos (by rw [hq]; simp), if_pos (by rw [hq]; simp)]
    rw [hq] at h
    exact readA_any (some r) h ⟨rfl, rfl, hrt⟩ ht
  · have hq' : ¬ (rtBytes r == turnN at_ t (rtBytes r) 32) = true := fun e => hq (by simpa using (beq_iff_eq.1 e).symm)
    rw [if_neg hq', if_neg hq']
    have hl := rt_len r
    have h1 := turnN_length at_ t (rtBytes r) 32
    have := readE_any _ 8 h rfl rfl (show (turnN at_ t (rtBytes r) 32).length ≤ 411 by omega) ht (rall_turned r at_ t hq)
    exact this
theorem readY_any {B : Nat} {w : World} {p : Nat} {x : DX} (n m : Nat) (r : Rt) (at_ : Int) (t k : Nat) (h : Dk B w p x (A1s n ((turnN at_ t (rtBytes r) 32).take k) m)) (hk : k < (rtBytes r).length) (ht : Tab w) :
    ∃ c : Int, (c == 0) = false ∧ Calls Tryd.prog 12 #[pv p] w fun e w' => e = .returned (.tuple #[rtV rt0, .int .i64 c]) ∧ Ext w w' := by
  obtain ⟨c, hc⟩ := rall_cut r at_ t k hk
  have hl := rt_len r
  have h1 := turnN_length at_ t (rtBytes r) 32
  refine ⟨if c = 0 then 2 else c, ?_, readE_any _ c h rfl rfl (show ((turnN at_ t (rtBytes r) 32).take k).length ≤ 411 by rw [List.length_take]; omega) ht hc⟩
  by_cases h0 : c = 0
  · rw [if_pos h0]; rfl
  · rw [if_neg h0, beq_eq_false_iff_ne]; exact h0
set_option maxHeartbeats 8000000 in
theorem rootTurned_law (r : Rt) (at_ : Int) (t : Nat) (cut : Int) (htt : t < 4294967296) (ha : -9223372036854775808 ≤ at_ ∧ at_ ≤ 9223372036854775807) (w : World) (ht : Tab w) :
    Calls Tryd.prog 5 #[rtV r, .int .i64 at_, .int .u32 (t : Int), .int .i64 cut] w fun e w' => e = .returned (.bool true) ∧ Ext w w' := by
  have HT := hid ht
  have hb1 := heap_alloc_new w (rtO r)
  have HB1 := hid hb1
  have HE1 := hid (Ext.alloc w (rtO r))
  have HN0 : Hid (WF (newP (Int.toNat 1024))) := hid (wf_new (by decide))
  have HBL := hid (rt_len r)
  have HAT := hid ha
  have HTT := hid htt
  obtain ⟨rr, hrr⟩ : ∃ b, rtB r = b := ⟨_, rfl⟩
  have HRR := hid hrr
  clear ht hb1 ha htt hrr
  obtain ⟨ga, la, pa, da, sa⟩ := r
  go_enter Tryd.func5, Tryd.ntmps5
  go_wp2_with fail
  refine (awake16_any _ (HT.out.ext HE1.out)).mono ?_
  rintro e w3 ⟨rfl, hx⟩
  have HB3 := hid (hx.obj HB1.out)
  have HE3 := hid (HE1.out.trans hx)
  have hl1 := (Array.getElem?_eq_some_iff.1 HB3.out).1
  have HLT := hid hl1
  obtain ⟨n1, hn1⟩ : ∃ n, w.heap.size = n := ⟨_, rfl⟩
  rw [hn1] at HB3 HLT
  try rw [hn1]
  clear hx hl1 HB1 HE1 hn1
  go_wp2_with fail
  refine Calls.mono (dnew_any w3 w3.heap.size (Nat.le_refl _) 1024) ?_
  rintro e w4 ⟨-, h⟩
  obtain ⟨p, x, rfl, d4, x4, q4⟩ := h (by decide) (by decide)
  have D4 := hid d4
  have HE4 := hid x4
  clear h d4 x4 q4
  obtain ⟨k0, k1, k2, k3, k4, kf⟩ := blk5 (HE4.out.obj HB3.out)
  go_wp2_with fail
  clear k0 k1 k2 k3 k4 kf
  cases rr
  case false =>
    have hc := write_at (wr_no HRR.out) D4.out HE4.out.size HN0.out (Nat.zero_le _) (HT.out.ext (HE3.out.trans HE4.out))
    refine hc.mono ?_
    clear hc
    rintro e w5 ⟨rfl, hs⟩
    obtain ⟨x5, d5, b5, -⟩ := hs.keep
    have HE5 := hid (HE4.out.below b5)
    obtain ⟨k0, k1, k2, k3, k4, kf⟩ := blk5 (HE5.out.obj HB3.out)
    clear hs d5 b5 D4 HE4
    go_wp2_with fail
    refine Calls.mono (rt_any ⟨ga, la, pa, da, sa⟩ _) ?_
    rintro e w6 ⟨rfl, hx⟩
    rw [HRR.out]
    have HE6 := hid (HE3.out.trans (HE5.out.trans hx))
    clear hx k0 k1 k2 k3 k4 kf
    go_wp2
    go_ret
    exact ⟨rfl, HE6.out⟩
  have hc := write_at (wr0 HRR.out (by have := HBL.out; have : Int.toNat 1024 = 1024 := rfl; omega)) D4.out HE4.out.size HN0.out (Nat.zero_le _) (HT.out.ext (HE3.out.trans HE4.out))
  refine hc.mono ?_
  clear hc
  rintro e w5 ⟨rfl, hs⟩
  obtain ⟨x5, d5, b5, -⟩ := hs.keep
  rw [A1s_eq] at d5
  have D5 := hid d5
  have HE5 := hid (HE4.out.below b5)
  have hw5 := wf_wr HN0.out ⟨ga, la, pa, da, sa⟩
  rw [wr0 HRR.out (by have := HBL.out; have : Int.toNat 1024 = 1024 := rfl; omega), A1s_eq] at hw5
  have HW5 := hid hw5
  clear hs d5 b5 D4 HE4 hw5
  have hxx := fun (w : World) (x : DX) m => readX_any (B := w3.heap.size) (w := w) (p := p) (x := x) (Int.toNat 1024) m ⟨ga, la, pa, da, sa⟩ at_ t
  have hyy := fun (w : World) (x : DX) m k => readY_any (B := w3.heap.size) (w := w) (p := p) (x := x) (Int.toNat 1024) m ⟨ga, la, pa, da, sa⟩ at_ t k
  obtain ⟨bs, hbs⟩ : ∃ b, rtBytes ⟨ga, la, pa, da, sa⟩ = b := ⟨_, rfl⟩
  rw [hbs] at HBL D5 HW5 hxx hyy
  have HXX := hid hxx
  have HYY := hid hyy
  obtain ⟨cs, hcs⟩ : ∃ c, turnN at_ t bs 32 = c := ⟨_, rfl⟩
  have HCS := hid hcs
  have hlen := turnN_length at_ t bs 32
  rw [hcs] at hlen HXX HYY
  have HLEN := hid hlen
  clear hbs hxx hyy hcs hlen
  go_wp2_with fail
  have hc := dread_any nRoot nl.2 D5.out
  unfold ReadP at hc
  rw [(rd_A _ _ _).1, (rd_A _ _ _).2] at hc
  refine Calls.mono hc ?_
  clear hc
  rintro e w6 ⟨⟨v, rfl, ho⟩, hx⟩
  obtain ⟨vo, vc, hve⟩ := ho.owv.shape
  obtain ⟨nb, hnb⟩ : ∃ n, bs.length = n := ⟨_, rfl⟩
  rw [hnb] at hve
  subst hve
  have HNB := hid hnb
  have hn : ∀ q ∈ oB (Value.slice vo nb vc), q ∉ x5.blk p := fun q hq hm => by
    have h1 := row_lo ho q hq
    have h2 := D5.out.lt16 q hm
    omega
  have HO6 := hid ho
  have HN6 : Hid (∀ q ∈ oB (.slice vo nb vc), q ∉ x5.blk p) := hid hn
  have D6 := hid (D5.out.ext hx)
  have HE6 := hid (HE5.out.trans hx)
  clear hx ho hn D5 HE5 hnb
  go_wp2_with fail
  have hc := turn_any _ _ at_ (t : Int) t rfl HTT.out HAT.out.1 HAT.out.2 w6 HO6.out.byt (by have := HBL.out; omega)
  rw [HCS.out] at hc
  refine hc.mono ?_
  clear hc
  rintro e w7 ⟨v2, rfl, ho, hx⟩
  have hn : ∀ q ∈ oB v2, q ∉ x5.blk p := fun q hq hm => by
    have h1 := row_lo ho q hq
    have h2 := D6.out.lt16 q hm
    omega
  have HN7' : Hid (∀ q ∈ oB v2, q ∉ x5.blk p) := hid hn
  have HO7' := hid ho
  have HO7 : Hid (Own w7 _ 5 (.slice vo nb vc) bs) := hid (hx.owns HO6.out)
  have D7 := hid (D6.out.ext hx)
  have HE7 := hid (HE6.out.trans hx)
  clear hx ho hn D6 HE6 HO6
  go_wp2_with fail
  have hc := dcut_any nRoot 0 nl.2 D7.out HE7.out.size (HW5.out.cut nRoot 0).gd
  unfold DoR at hc
  rw [cut_A0] at hc
  refine hc.mono ?_
  clear hc
  rintro e w8 ⟨rfl, hs⟩
  obtain ⟨x8, d8, b8, kp, kb⟩ := hs.keepB
  obtain ⟨ho8, hn8⟩ := kb _ _ _ HO7.out HN6.out
  obtain ⟨ho8', hn8'⟩ := kb _ _ _ HO7'.out HN7'.out
  have HO8 := hid ho8
  have HN8 := hid hn8
  have HO8' := hid ho8'
  have HN8' := hid hn8'
  have D8 := hid d8
  have HE8 := hid (HE7.out.below b8)
  have hw8 := HW5.out.cut nRoot 0
  rw [cut_A0] at hw8
  have HW8 := hid hw8
  clear hs d8 b8 kp kb ho8 hn8 ho8' hn8' hw8 D7 HE7 HO7 HO7' HN6 HN7'
  go_wp2_with fail
  have hap := app_A (Int.toNat 1024) 0 cs (by have := HBL.out; have := HLEN.out; have : Int.toNat 1024 = 1024 := rfl; omega)
  have hc := dappend_any nRoot cs v2 nl.2 HO8'.out.byt (by have := HBL.out; have := HLEN.out; omega) D8.out HE8.out.size (HW8.out.app nRoot cs).gd
  unfold DoR at hc
  rw [hap] at hc
  refine hc.mono ?_
  clear hc
  rintro e w9 ⟨rfl, hs⟩
  obtain ⟨x9, d9, b9, kp, kb⟩ := hs.keepB
  obtain ⟨ho9, -⟩ := kb _ _ _ HO8.out HN8.out
  obtain ⟨ho9', -⟩ := kb _ _ _ HO8'.out HN8'.out
  have HO9 := hid ho9
  have HO9' := hid ho9'
  have D9 := hid d9
  have HE9 := hid (HE8.out.below b9)
  have hw9 := HW8.out.app nRoot cs
  rw [hap] at hw9
  have HW9 := hid hw9
  clear hs d9 b9 kp kb ho9 ho9' hw9 hap D8 HE8 HO8 HO8' HN8 HN8' HW5 HW8
  go_wp2_with fail
  obtain ⟨q, hq⟩ : ∃ q, (bs == cs) = q := ⟨_, rfl⟩
  have HQ := hid hq
  rw [hq] at HXX
  clear hq
  cases q
  all_goals
    have hc := HXX.out w9 x9 0 D9.out HRR.out (HT.out.ext (HE3.out.trans HE9.out))
    simp only [reduceIte, Bool.false_eq_true] at hc
    refine Calls.mono hc ?_
    clear hc
    rintro e w10 ⟨rfl, hx⟩
    have hob : ∀ o, Byt (w10.alloc o) (.slice vo nb vc) bs := fun o => Own.byt (b := w5.heap.size) (e := 5) (l := bs) ((hx.trans (Ext.alloc w10 o)).owns HO9.out)
    have hoc : ∀ o, Byt (w10.alloc o) v2 cs := fun o => Own.byt (b := w6.heap.size) (e := 5) (l := cs) ((hx.trans (Ext.alloc w10 o)).owns HO9'.out)
    have HOB := hid hob
    have HOC := hid hoc
    have HE10 := hid (HE9.out.trans hx)
    have D10 := hid (D9.out.ext hx)
    clear hx hob hoc HXX
    go_wp2_with fail
    refine Calls.mono (rsame_any _ _ bs cs _ (HOB.out _) (HOC.out _)) ?_
    rintro e w11 ⟨rfl, hx⟩
    rw [HQ.out]
    have HE11 := hid (HE10.out.trans ((Ext.alloc w10 _).trans hx))
    have D11 := hid (D10.out.ext ((Ext.alloc w10 _).trans hx))
    obtain ⟨k0, k1, k2, k3, k4, kf⟩ := blk5 (HE11.out.obj HB3.out)
    obtain ⟨j0, j1, j2, j3, j4, jf⟩ := blk5 (hx.obj (heap_alloc_new w10 _))
    clear hx HE10 D10 HOB HOC D9
    by_cases hneg : cut < 0
    · go_wp2
      go_ret
      exact ⟨rfl, HE3.out.trans HE11.out⟩
    by_cases hge : (nb : Int) ≤ cut
    · go_wp2
      go_ret
      exact ⟨rfl, HE3.out.trans HE11.out⟩
    have hlt : cut < (nb : Int) := by omega
    have HCUT : Hid (0 ≤ cut ∧ cut < (nb : Int)) := hid (by omega)
    go_wp2_with fail
    clear k0 k1 k2 k3 k4 kf j0 j1 j2 j3 j4 jf hneg hge hlt
    have hct := cut_A (Int.toNat 1024) cs 0 cut HCUT.out.1 (by have := HCUT.out; have := HLEN.out; have := HNB.out; omega)
    have hc := dcut_any nRoot cut nl.2 D11.out HE11.out.size (HW9.out.cut nRoot cut).gd
    unfold DoR at hc
    rw [hct] at hc
    refine Calls.mono hc ?_
    clear hc hct
    rintro e w12 ⟨rfl, hs⟩
    obtain ⟨x12, d12, b12, -⟩ := hs.keep
    have HE12 := hid (HE11.out.below b12)
    obtain ⟨c, hc0, hc⟩ := HYY.out w12 x12 _ _ d12 (by have := HCUT.out; have := HNB.out; omega) (HT.out.ext (HE3.out.trans HE12.out))
    have HC := hid hc
    clear hs d12 b12 hc HYY D11
    go_wp2_with fail
    refine Calls.mono HC.out ?_
    rintro e w13 ⟨rfl, hx⟩
    have HE13 := hid (HE3.out.trans (HE12.out.trans (hx.trans (Ext.alloc w13 (rtO rt0)))))
    clear hx HC
    go_wp2
    go_ret
    refine ⟨?_, HE13.out⟩
    show Ending.returned (.bool (c != 0)) = .returned (.bool true)
    rw [bne, hc0]
    rfl
end Go.Proofs.YtiblhopjhpflpaaDoor

namespace Go.Proofs.YtiblhopjhpflpaaDoor.rootTurned
open Go.ChangeShapes Go.WideShapes Go.ChangeAt Go.RowKit
set_option linter.unusedVariables false
set_option maxRecDepth 100000

theorem own : ownKnob Tryd.prog.godebug = none := by kernel_rfl
theorem kid1 : laidOutB Tryd.prog = true := by kernel_rfl
theorem kid2 : mapsRowed Tryd.prog = true := by kernel_rfl
theorem kid3 : ((List.range Tryd.prog.types.size).all fun t => match Tryd.prog.underlying t with | some (.slice e) => decide (0 < Tryd.prog.cellsOf e) | _ => true) = true := by kernel_rfl
theorem kid4 : ∀ t ∈ Tryd.f5.params.toList, t < Tryd.prog.types.size := by decide +kernel
theorem gTab : Tryd.prog.globalNamed "tumbrel/record.numbers" = some 0 := by kernel_rfl
theorem gTabType : (Tryd.prog.globals[0]?).map (·.type) = some 97 := by kernel_rfl
theorem cellsT : Tryd.prog.cellsOf 97 = 18 := by kernel_rfl
theorem cellsE : Tryd.prog.cellsOf 3 = 1 := by kernel_rfl
theorem table {W : World} (h : laidMetH Tryd.prog Rows.rootTurnedRow.laid W) : Tab W := by
  have ht : Lib.TabIs Tryd.prog W "tumbrel/record.numbers" .i64 tabZ :=
    Lib.tabIs_of_head (rest := []) gTab gTabType Tryd.underlying97 Tryd.underlying3 cellsE cellsT h
  intro i hi
  rw [← tabZ_at ⟨i, hi⟩]
  exact ht.cell gTab i hi

theorem contract (H : Type) (enc : TypeId × Value → H) (W : World) (base : Nat) (args : Array Value) (ds gs : List (DataW H)) (before : List MemPlace)
    (hval : ∀ (j : Nat) t v, Tryd.f5.params[j]? = some t → args[j]? = some v → Value.okWide Tryd.prog W .any base t v)
    (hW : DataW.Whole enc Tryd.prog Tryd.f5.params.toList Rows.rootTurnedSpec.vars false W args.toList ds gs before) (hL : laidMetH Tryd.prog Rows.rootTurnedRow.laid W) :
    Calls Tryd.prog 5 args W fun e W' => ∃ v, e = .returned v ∧ Rows.rootTurnedSpec.post enc Tryd.prog Tryd.f5 false true false false W args v W' := by
  have hW' := hW
  obtain ⟨p, q, hA0, hV, rfl, hfz, hnd⟩ := hW
  have hA : DataW.TrodAll enc Tryd.prog W 0 (fun _ => true) true Tryd.f5.params.toList args.toList ds p := hA0
  rw [Tryd.params5] at hA hval
  obtain ⟨v0, vs0, d0, ds0, p0, q0, hargs, rfl, rfl, h0, r0⟩ := trodAll_cons hA
  obtain ⟨v1, vs1, d1, ds1, p1, q1, rfl, rfl, rfl, h1, r1⟩ := trodAll_cons r0
  obtain ⟨v2, vs2, d2, ds2, p2, q2, rfl, rfl, rfl, h2, r2⟩ := trodAll_cons r1
  obtain ⟨v3, vs3, d3, ds3, p3, q3, rfl, rfl, rfl, h3, r3⟩ := trodAll_cons r2
  obtain ⟨rfl, rfl, rfl⟩ := trodAll_nil r3
  obtain rfl : args = #[v0, v1, v2, v3] := by cases args; simp_all
  obtain ⟨rfl, rfl⟩ := trodVars_none hV
  obtain ⟨x0, rfl⟩ := open_root (hval 0 32 v0 rfl rfl) h0
  obtain ⟨a1, rfl, rfl, rfl, w1⟩ := open_int Tryd.underlying3 (hval 1 3 v1 rfl rfl) h1
  have b1 := Go.Tum.i64_wf w1
  obtain ⟨a2, rfl, rfl, rfl, w2⟩ := open_int Tryd.underlying45 (hval 2 45 v2 rfl rfl) h2
  obtain ⟨t2, rfl, ht2⟩ := Go.Tum.u32_wf w2
  obtain ⟨a3, rfl, rfl, rfl, w3⟩ := open_int Tryd.underlying3 (hval 3 3 v3 rfl rfl) h3
  refine (rootTurned_law x0 a1 t2 a3 ht2 b1 W (table hL)).mono fun e W' ⟨he, hg⟩ => ?_
  subst he
  exact ⟨_, rfl, Go.Tum.law_post kid1 kid2 kid3 kid4 rfl Tryd.underlying4 hW' rfl rfl hg⟩

/-- A world for the witness: the settled one, the table laid. -/
noncomputable def laidWorld (os : Os) : World :=
  { World.holding Tryd.prog os ⟨#[], #[], []⟩ with heap := (World.holding Tryd.prog os ⟨#[], #[], []⟩).heap.modify 0 fun
      | .cells _ t frozen => .cells (tabZ.map fun z => Value.int .i64 z).toArray t frozen
      | o => o }
theorem laid_met (os : Os) : laidMet Tryd.prog Rows.rootTurnedRow.laid ((laidWorld os).forCall (fun _ _ => 0) ⟨#[], #[.agg #[.int .u64 0, .int .i64 0, .int .i64 0, .int .i64 0, .int .i64 0], .int .i64 0, .int .u32 0, .int .i64 0], []⟩).memory :=
  laidMet_of_run' 8 (by kernel_rfl) (by kernel_rfl)
theorem reads (os : Os) {H : Type} (enc : TypeId × Value → H) : ∃ places, DataW.whole enc Tryd.prog ((laidWorld os).forCall (fun _ _ => 0) ⟨#[], #[.agg #[.int .u64 0, .int .i64 0, .int .i64 0, .int .i64 0, .int .i64 0], .int .i64 0, .int .u32 0, .int .i64 0], []⟩).memory Tryd.f5.params.toList Rows.rootTurnedSpec.vars false #[Value.agg #[.int .u64 0, .int .i64 0, .int .i64 0, .int .i64 0, .int .i64 0], .int .i64 0, .int .u32 0, .int .i64 0].toList 8 = some ([.agg [.lit (.int .u64 0), .agg [.lit (.int .i64 0), .lit (.int .i64 0), .lit (.int .i64 0)], .lit (.int .i64 0)], .lit (.int .i64 0), .lit (.int .u32 0), .lit (.int .i64 0)], [], places) :=
  ⟨[], by kernel_rfl⟩

set_option maxRecDepth 100000 in
theorem lifted (os : Os) (started : os.Started) (H : Type) (enc : TypeId × Value → H) (F : Stop.Interp) :
    ReturnsInHanded {} Tryd.checked os 5 .any ((OpenSpec.ofChange Rows.rootTurnedSpec).preRow enc Tryd.prog Tryd.f5 Rows.rootTurnedRow.domain false Rows.rootTurnedRow.laid) (((OpenSpec.ofChange Rows.rootTurnedSpec).at F).post enc Tryd.prog Tryd.f5 false true false false) := by
  obtain ⟨places, hx⟩ := reads os enc
  refine returnsInHanded_of_row (C := Tryd.checked) (s := OpenSpec.ofChange Rows.rootTurnedSpec) own started (by kernel_rfl) Tryd.func5
    (witness_row_at (enc := enc) (C := Tryd.checked) false (laidWorld os) #[.agg #[.int .u64 0, .int .i64 0, .int .i64 0, .int .i64 0, .int .i64 0], .int .i64 0, .int .u32 0, .int .i64 0] rfl (by kernel_rfl) (by kernel_rfl) (by kernel_rfl)
      (OpenSpec.preRow_of_cond 8 hx (by kernel_rfl) (fun k hk => by cases hk) (by kernel_rfl) (laid_met os))) ?_
  intro W base args ds gs before hval hW _ _ _ hL _ _
  exact contract H enc W base args ds gs before hval hW hL

theorem said : Rows.RootTurnedSaid :=
  OpenClaim.holds_of_cond 5 Tryd.f5 rfl rfl rfl rfl rfl rfl rfl ⟨rfl, rfl, rfl, rfl, rfl⟩ rfl rfl rfl rfl rfl (by kernel_rfl) Tryd.func5 (by kernel_rfl)
    (of_decide_eq_true (by kernel_rfl)) (by unfold Func.isWrapper; first | (rw [if_pos (by decide +kernel)]; kernel_rfl) | (rw [if_neg (by decide +kernel)]; exact ⟨rfl, rfl⟩))
    (fun os started H enc _ F => by rw [OpenClaim.pre_eq_preRow]; exact lifted os started H enc F)

theorem plain (f : FuncId) (fn : Func) (hf : Tryd.pinned.checked.prog.funcNamed "tumbrel/tumbrellaw16.RootTurned" = some f) (hfn : Tryd.pinned.checked.prog.funcs[f]? = some fn) :
    true = Tryd.pinned.checked.prog.looks [] ∧ ∀ (j : Nat) t, fn.params[j]? = some t → Tryd.pinned.checked.prog.wantsStandIn t = false := by
  obtain rfl : f = 5 := Option.some.inj ((show Tryd.prog.funcNamed "tumbrel/tumbrellaw16.RootTurned" = some 5 by kernel_rfl).symm.trans hf) |>.symm
  obtain rfl : fn = Tryd.f5 := (Option.some.inj (Tryd.func5.symm.trans hfn)).symm
  refine ⟨by kernel_rfl, fun j t ht => ?_⟩
  rw [Tryd.params5] at ht
  have hm := Array.mem_of_getElem? ht
  have hall : ∀ t ∈ Tryd.f5.params.toList, Tryd.prog.wantsStandIn t = false := by decide +kernel
  rw [Tryd.params5] at hall
  exact hall t (by simpa using hm)

theorem proved : Rows.RootTurnedCardSaid :=
  Claim7.holds_tied_plain_at .later [] _ _ _ _ said (fun _ h => by cases h) (by kernel_rfl) (fun _ h => by cases h) rootTurned_row_tie rfl ⟨rfl, rfl⟩ (by kernel_rfl) rfl plain (by kernel_rfl)
end Go.Proofs.YtiblhopjhpflpaaDoor.rootTurned

