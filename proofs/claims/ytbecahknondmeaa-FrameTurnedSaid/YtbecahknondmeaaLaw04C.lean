/- The statements of layer 4: FrameTurned. -/
import Derived.Test.YtbecahknondmeaaLaw04
import Derived.Test.YtbecahknondmeaaFrmO
import Derived.Test.YtbecahknondmeaaFrmT
namespace Go.Proofs.Ytbecahknondmeaa
open Go.RowKit Go.Tum Go.Tum.Crc

set_option maxRecDepth 100000 in
set_option maxHeartbeats 2000000 in
theorem frameTurned_law (x : Fr) (v u : Value) (m : List UInt8) (at_ : Int) (tt : Int) (t : Nat) (ht : tt = t) (ht2 : t < 4294967296) (w : World) (hb : Byt w v x.body) (hc : Byt w u m) (hat1 : -9223372036854775808 ≤ at_) (hat2 : at_ ≤ 9223372036854775807) :
    Calls Try.prog 6 #[fv x v, u, .int .i64 at_, .int .u32 tt] w fun e w' => e = .returned (.bool true) ∧ Ext w w' := by
  subst ht
  obtain ⟨ao, cap, rfl, hle, hm, -, -⟩ := hb.open
  obtain ⟨bo, cbp, rfl, hle2, hm2, -, -⟩ := hc.open
  have HB := hid hb
  have HC := hid hc
  clear hb hc
  obtain ⟨kk, body⟩ := x
  simp only [] at *
  by_cases h1 : 1200 < body.length
  · have hd : decide (1200 < (body.length : Int)) = true := by simp; omega
    go_enter Try.func6, Try.ntmps6
    go_wp2_with fail
    refine (awake_any _).mono ?_
    rintro e w1 ⟨rfl, hw1⟩
    obtain ⟨c0, c1, -, -⟩ := blk2 (hw1.obj (heap_alloc_new w _))
    have hE := (Ext.alloc _ _).trans hw1
    clear hw1
    go_wp2
    go_ret
    exact ⟨rfl, hE⟩
  have hd : decide (1200 < (body.length : Int)) = false := by simp; omega
  by_cases h2 : 1200 < m.length
  · have hd2 : decide (1200 < (m.length : Int)) = true := by simp; omega
    go_enter Try.func6, Try.ntmps6
    go_wp2_with fail
    refine (awake_any _).mono ?_
    rintro e w1 ⟨rfl, hw1⟩
    obtain ⟨c0, c1, -, -⟩ := blk2 (hw1.obj (heap_alloc_new w _))
    have hE := (Ext.alloc _ _).trans hw1
    clear hw1
    go_wp2
    go_ret
    exact ⟨rfl, hE⟩
  have hd2 : decide (1200 < (m.length : Int)) = false := by simp; omega
  by_cases h3 : 400 < body.length
  · have hR : fbytesR ⟨kk, body⟩ = ([], 4) := by unfold fbytesR; rw [if_pos h3]
    have HR := hid hR
    clear hR
    go_enter Try.func6, Try.ntmps6
    go_wp2_with fail
    refine (awake_any _).mono ?_
    rintro e w1 ⟨rfl, hw1⟩
    have HX := hid (hw1.obj (heap_alloc_new w _))
    obtain ⟨c0, c1, -, -⟩ := blk2 HX.out
    have hE := (Ext.alloc _ _).trans hw1
    clear hw1
    go_wp2_with fail
    refine (fbytes_any ⟨kk, body⟩ _ _ (HB.out.ext hE)).mono ?_
    rintro e w2 ⟨r, rfl, hr, hw2⟩
    rw [HR.out] at hr ⊢
    simp only [] at hr
    obtain ⟨ro, rc, rfl, -, -, -, -⟩ := hr.byt.open
    have hE2 := hE.trans hw2
    clear hr hw2
    go_wp2
    go_ret
    exact ⟨rfl, hE2⟩
  obtain ⟨fb, hfb⟩ : ∃ fb, fbytes ⟨kk, body⟩ = fb := ⟨_, rfl⟩
  obtain ⟨tb, htb⟩ : ∃ tb, turnN at_ t fb 32 = tb := ⟨_, rfl⟩
  have hfl : fb.length = body.length + 11 := by rw [← hfb]; exact fbytes_length _
  have htl : tb.length = body.length + 11 := by rw [← htb, turnN_length, hfl]
  have hR : fbytesR ⟨kk, body⟩ = (fb, 0) := by unfold fbytesR; rw [if_neg h3, hfb]
  have hEq : tb = fb → fread (tb ++ m) = (⟨kk, body⟩, body.length + 11, 0) := fun e => by rw [e, ← hfb]; exact fread_fbytes ⟨kk, body⟩ m (by simp; omega)
  have hNe : tb ≠ fb → fread (tb ++ m) = (f0, 0, 8) := fun e => by
    have := fread_turned ⟨kk, body⟩ (by simp; omega) at_ t m (by rw [hfb, htb]; exact e)
    rwa [hfb, htb] at this
  have HR := hid hR
  have HEQ := hid hEq
  have HNE := hid hNe
  have HTB := hid htb
  have HFL := hid hfl
  have HTL := hid htl
  have HSB := hid (show sameB ⟨kk, body⟩ ⟨kk, body⟩ = true by simp [sameB])
  clear hR hfb hfl htl hEq hNe htb
  go_enter Try.func6, Try.ntmps6
  go_wp2_with fail
  refine (awake_any _).mono ?_
  rintro e w1 ⟨rfl, hw1⟩
  have HX := hid (hw1.obj (heap_alloc_new w _))
  obtain ⟨c0, c1, -, -⟩ := blk2 HX.out
  have hE := (Ext.alloc _ _).trans hw1
  clear hw1
  go_wp2_with fail
  refine (fbytes_any ⟨kk, body⟩ _ _ (HB.out.ext hE)).mono ?_
  rintro e w2 ⟨r, rfl, hr, hw2⟩
  rw [HR.out] at hr ⊢
  simp only [] at hr
  obtain ⟨ro, rc, rfl, hrc, hrc2, -, -⟩ := hr.byt.open
  rw [HFL.out] at hr hrc ⊢
  clear c0 c1
  have HX2 := hid (hw2.obj HX.out)
  have hE2 := hE.trans hw2
  have HR2 := hid hr
  clear hr hw2 hE HX
  have hsz2 := hE2.size
  go_wp2_with fail
  refine (turn_any _ fb at_ _ t rfl ht2 hat1 hat2 _ HR2.out.byt (by rw [HFL.out]; omega)).mono ?_
  rintro e w3 ⟨p, rfl, hp, hw3⟩
  rw [HTB.out] at hp
  obtain ⟨po, pc, rfl, -, -, -, -⟩ := hp.byt.open
  rw [HTL.out] at hp ⊢
  have HX3 := hid (hw3.obj HX2.out)
  have HR3 := hid (HR2.out.ext hw3)
  have HP3 := hid hp
  have hE3 := hE2.trans hw3
  clear hp hw3 hE2 HX2 HR2
  go_wp2_with (first
    | (at_builtin; refine wpList_append_byt rfl (.tmp 38) (.tmp 39) 22 rfl w3.heap.size 5 Try.underlying22 info5 rfl (own_lit w3 _ _ [] _ rfl 0 rfl (Nat.le_refl _) (by simp [maxLen])) rfl (HP3.out.byt.ext (Ext.alloc _ _)) (body.length + 11) (by rw [HTL.out]; simp) (by omega) (by simp) ?_; intro ao3 cap3 w4 hown3 hg3 hb3)
    | (at_builtin; refine wpList_append_byt rfl (.tmp 40) (.tmp 41) 22 rfl w3.heap.size 5 Try.underlying22 info5 rfl (show Own w4 w3.heap.size 5 _ tb from hown3) rfl (HC.out.ext (hE3.trans ((Ext.alloc _ _).below hb3))) (body.length + 11 + m.length) (by rw [HTL.out]) (by omega) (Nat.le_trans (by simp) hb3.size) ?_; intro ao4 cap4 w5 hown4 hg4 hb4)
    | fail)
  have hx4 : Ext w3 w5 := ((Ext.alloc w3 _).below hb3).below hb4
  refine (read_any _ (tb ++ m) _ hown4.byt (by simp [HTL.out]; omega)).mono ?_
  rintro e w6 ⟨r5, rfl, hr5, hw5⟩
  have hx5 := hx4.trans hw5
  clear hown3 hg3 hb3 hown4 hg4 hb4 hx4
  by_cases hq : tb = fb
  · have hbq : (fb == tb) = true := by simp [hq]
    rw [HEQ.out hq] at hr5 ⊢
    simp only [] at hr5
    obtain ⟨so, sc, rfl, -, -, -, -⟩ := hr5.byt.open
    have hxx := hx5.trans (Ext.alloc w6 (.cells #[.int .u8 (kk.toNat : Int), .slice so body.length sc] 24))
    have hE6 := hE3.trans hxx
    have HY := hid (heap_alloc_new w6 (.cells #[.int .u8 (kk.toNat : Int), .slice so body.length sc] 24))
    have HX6 := hid (hxx.obj HX3.out)
    have HR6 := hid (HR3.out.ext hxx)
    have HP6 := hid (HP3.out.ext hxx)
    have HB6 := hid (HB.out.ext hE6)
    have HS6 := hid (hr5.byt.ext (Ext.alloc w6 (.cells #[.int .u8 (kk.toNat : Int), .slice so body.length sc] 24)))
    have HBQ := hid hbq
    clear hr5 hw5 hx5 hxx HX3 HR3 HP3 hE3 hq hbq
    go_wp2_with fail
    generalize w6.heap.size = b5 at *
    generalize w6.alloc (.cells #[.int .u8 (kk.toNat : Int), .slice so body.length sc] 24) = W5 at *
    refine (rsame_any _ _ fb tb _ HR6.out.byt HP6.out.byt).mono ?_
    rintro e w7 ⟨rfl, hw7⟩
    rw [HBQ.out]
    obtain ⟨c0, c1, -, -⟩ := blk2 (hw7.obj HX6.out)
    obtain ⟨y0, y1, -, -⟩ := blk2 (hw7.obj HY.out)
    have HB7 := hid (HB6.out.ext hw7)
    have HS7 := hid (HS6.out.ext hw7)
    have hE7 := hE6.trans hw7
    clear hw7 hE6 HX6 HY HR6 HP6 HB6 HS6
    go_wp2_with fail
    refine (same_any ⟨kk, body⟩ ⟨kk, body⟩ _ _ _ HB7.out HS7.out).mono ?_
    rintro e w8 ⟨rfl, hw8⟩
    rw [HSB.out]
    have hE8 := hE7.trans hw8
    clear hw8 hE7
    go_wp2
    go_ret
    exact ⟨rfl, hE8⟩
  · have hbq : (fb == tb) = false := by
      rw [beq_eq_false_iff_ne]; exact fun e => hq e.symm
    rw [HNE.out hq] at hr5 ⊢
    simp only [] at hr5
    obtain ⟨so, sc, rfl, -, -, -, -⟩ := hr5.byt.open
    have hxx := hx5.trans (Ext.alloc w6 (.cells #[.int .u8 0, .slice so 0 sc] 24))
    have hE6 := hE3.trans hxx
    have HY := hid (heap_alloc_new w6 (.cells #[.int .u8 0, .slice so 0 sc] 24))
    have HR6 := hid (HR3.out.ext hxx)
    have HP6 := hid (HP3.out.ext hxx)
    have HBQ := hid hbq
    clear hr5 hw5 hx5 hxx HX3 HR3 HP3 hE3 hq hbq
    go_wp2_with fail
    generalize w6.heap.size = b5 at *
    generalize w6.alloc (.cells #[.int .u8 0, .slice so 0 sc] 24) = W5 at *
    refine (rsame_any _ _ fb tb _ HR6.out.byt HP6.out.byt).mono ?_
    rintro e w7 ⟨rfl, hw7⟩
    rw [HBQ.out]
    obtain ⟨y0, y1, -, -⟩ := blk2 (hw7.obj HY.out)
    have hE7 := hE6.trans hw7
    clear hw7 hE6 HY HR6 HP6
    go_wp2
    go_ret
    exact ⟨rfl, hE7⟩
end Go.Proofs.Ytbecahknondmeaa
