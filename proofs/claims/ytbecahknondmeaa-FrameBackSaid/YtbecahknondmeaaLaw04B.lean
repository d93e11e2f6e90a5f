/- The statements of layer 4: FrameBack. -/
import Derived.Test.YtbecahknondmeaaLaw04
import Derived.Test.YtbecahknondmeaaFrmO
namespace Go.Proofs.Ytbecahknondmeaa
open Go.RowKit Go.Tum Go.Tum.Crc

set_option maxRecDepth 100000 in
set_option maxHeartbeats 2000000 in
theorem frameBack_law (x : Fr) (v u : Value) (m : List UInt8) (cut : Int) (w : World) (hb : Byt w v x.body) (hc : Byt w u m) (hcut1 : -9223372036854775808 ≤ cut) (hcut2 : cut ≤ 9223372036854775807) :
    Calls Try.prog 4 #[fv x v, u, .int .i64 cut] w fun e w' => e = .returned (.bool true) ∧ Ext w w' := by
  obtain ⟨ao, cap, rfl, hle, hm, -, -⟩ := hb.open
  obtain ⟨bo, cbp, rfl, hle2, hm2, -, -⟩ := hc.open
  have HB := hid hb
  have HC := hid hc
  clear hb hc
  obtain ⟨kk, body⟩ := x
  simp only [] at *
  by_cases h1 : 1200 < body.length
  · have hd : decide (1200 < (body.length : Int)) = true := by simp; omega
    go_enter Try.func4, Try.ntmps4
    go_wp2_with fail
    refine (awake_any _).mono ?_
    rintro e w1 ⟨rfl, hw1⟩
    obtain ⟨c0, c1, -, -⟩ := blk2 (hw1.obj (heap_alloc_new w _))
    have hE := (Ext.alloc _ _).trans hw1
    clear hw1
    go_wp2
    go_ret
    exact ⟨rfl, hE⟩
  have hd : decide (1200 < (body.length : Int)) = false := by simp; omega
  by_cases h2 : 1200 < m.length
  · have hd2 : decide (1200 < (m.length : Int)) = true := by simp; omega
    go_enter Try.func4, Try.ntmps4
    go_wp2_with fail
    refine (awake_any _).mono ?_
    rintro e w1 ⟨rfl, hw1⟩
    obtain ⟨c0, c1, -, -⟩ := blk2 (hw1.obj (heap_alloc_new w _))
    have hE := (Ext.alloc _ _).trans hw1
    clear hw1
    go_wp2
    go_ret
    exact ⟨rfl, hE⟩
  have hd2 : decide (1200 < (m.length : Int)) = false := by simp; omega
  by_cases h3 : 400 < body.length
  · have hd3 : decide (400 < (body.length : Int)) = true := by simp; omega
    have hR : fbytesR ⟨kk, body⟩ = ([], 4) := by unfold fbytesR; rw [if_pos h3]
    have HR := hid hR
    clear hR
    go_enter Try.func4, Try.ntmps4
    go_wp2_with fail
    refine (awake_any _).mono ?_
    rintro e w1 ⟨rfl, hw1⟩
    have HX := hid (hw1.obj (heap_alloc_new w _))
    obtain ⟨c0, c1, -, -⟩ := blk2 HX.out
    have hE := (Ext.alloc _ _).trans hw1
    clear hw1
    go_wp2_with fail
    refine (fbytes_any ⟨kk, body⟩ _ _ (HB.out.ext hE)).mono ?_
    rintro e w2 ⟨r, rfl, hr, hw2⟩
    rw [HR.out] at hr ⊢
    simp only [] at hr
    obtain ⟨ro, rc, rfl, -, -, -, -⟩ := hr.byt.open
    clear c0 c1
    obtain ⟨c0, c1, -, -⟩ := blk2 (hw2.obj HX.out)
    have hE2 := hE.trans hw2
    clear hr hw2
    go_wp2
    go_ret
    exact ⟨rfl, hE2⟩
  have hd3 : decide (400 < (body.length : Int)) = false := by simp; omega
  obtain ⟨fb, hfb⟩ : ∃ fb, fbytes ⟨kk, body⟩ = fb := ⟨_, rfl⟩
  have hfl : fb.length = body.length + 11 := by rw [← hfb]; exact fbytes_length _
  have hR : fbytesR ⟨kk, body⟩ = (fb, 0) := by unfold fbytesR; rw [if_neg h3, hfb]
  have hRd : fread (fb ++ m) = (⟨kk, body⟩, body.length + 11, 0) := by rw [← hfb]; exact fread_fbytes ⟨kk, body⟩ m (by simp; omega)
  have hSh : ∀ k, k < body.length + 11 → fread (fb.take k) = (f0, 0, 3) := fun k hk => by rw [← hfb]; exact fread_short ⟨kk, body⟩ k (by simp; omega) hk
  have HR := hid hR
  have HRD := hid hRd
  have HSH := hid hSh
  have HFL := hid hfl
  have HSB := hid (show sameB ⟨kk, body⟩ ⟨kk, body⟩ = true by simp [sameB])
  clear hR hRd hSh hfb hfl
  by_cases h4 : cut < 0
  · have hd4 : decide (cut < 0) = true := by simpa using h4
    go_enter Try.func4, Try.ntmps4
    go_wp2_with fail
    refine (awake_any _).mono ?_
    rintro e w1 ⟨rfl, hw1⟩
    have HX := hid (hw1.obj (heap_alloc_new w _))
    obtain ⟨c0, c1, -, -⟩ := blk2 HX.out
    have hE := (Ext.alloc _ _).trans hw1
    clear hw1
    go_wp2_with fail
    refine (fbytes_any ⟨kk, body⟩ _ _ (HB.out.ext hE)).mono ?_
    rintro e w2 ⟨r, rfl, hr, hw2⟩
    rw [HR.out] at hr ⊢
    simp only [] at hr
    obtain ⟨ro, rc, rfl, -, -, -, -⟩ := hr.byt.open
    rw [HFL.out] at hr ⊢
    clear c0 c1
    have HX2 := hid (hw2.obj HX.out)
    obtain ⟨c0, c1, -, -⟩ := blk2 HX2.out
    have hE2 := hE.trans hw2
    have HR2 := hid hr
    clear hr hw2 hE HX
    have hsz2 := hE2.size
    go_wp2_with (first
      | (at_builtin; refine wpList_append_byt rfl (.tmp 43) (.tmp 44) 22 rfl w2.heap.size 5 Try.underlying22 info5 rfl (own_lit w2 _ _ [] _ rfl 0 rfl (Nat.le_refl _) (by simp [maxLen])) rfl (HR2.out.byt.ext (Ext.alloc _ _)) (body.length + 11) (by rw [HFL.out]; simp) (by omega) (by simp) ?_; intro ao3 cap3 w3 hown3 hg3 hb3)
      | (at_builtin; refine wpList_append_byt rfl (.tmp 45) (.tmp 46) 22 rfl w2.heap.size 5 Try.underlying22 info5 rfl (show Own w3 w2.heap.size 5 _ fb from hown3) rfl (HC.out.ext (hE2.trans ((Ext.alloc _ _).below hb3))) (body.length + 11 + m.length) (by rw [HFL.out]) (by omega) (Nat.le_trans (by simp) hb3.size) ?_; intro ao4 cap4 w4 hown4 hg4 hb4)
      | fail)
    have hx4 : Ext w2 w4 := ((Ext.alloc w2 _).below hb3).below hb4
    refine (read_any _ (fb ++ m) _ hown4.byt (by simp [HFL.out]; omega)).mono ?_
    rintro e w5 ⟨r5, rfl, hr5, hw5⟩
    rw [HRD.out] at hr5 ⊢
    simp only [] at hr5
    obtain ⟨so, sc, rfl, -, -, -, -⟩ := hr5.byt.open
    have hx5 := hx4.trans hw5
    have hxx := hx5.trans (Ext.alloc w5 (.cells #[.int .u8 (kk.toNat : Int), .slice so body.length sc] 24))
    have hE6 := hE2.trans hxx
    have HY := hid (heap_alloc_new w5 (.cells #[.int .u8 (kk.toNat : Int), .slice so body.length sc] 24))
    have HX6 := hid (hxx.obj HX2.out)
    have HR6 := hid (HR2.out.ext hxx)
    have HB6 := hid (HB.out.ext hE6)
    have HS6 := hid (hr5.byt.ext (Ext.alloc w5 (.cells #[.int .u8 (kk.toNat : Int), .slice so body.length sc] 24)))
    clear c0 c1 hown3 hg3 hb3 hown4 hg4 hb4 hx4 hr5 hw5 hx5 hxx HX2 HR2 hE2
    obtain ⟨c0, c1, -, -⟩ := blk2 HX6.out
    obtain ⟨y0, y1, -, -⟩ := blk2 HY.out
    go_wp2_with fail
    generalize w5.heap.size = b5 at *
    generalize w5.alloc (.cells #[.int .u8 (kk.toNat : Int), .slice so body.length sc] 24) = W5 at *
    refine (same_any ⟨kk, body⟩ ⟨kk, body⟩ _ _ _ HB6.out HS6.out).mono ?_
    rintro e w7 ⟨rfl, hw7⟩
    rw [HSB.out]
    have hE7 := hE6.trans hw7
    have HR7 := hid (HR6.out.ext hw7)
    clear hE6 hw7 c0 c1 y0 y1 HY HX6 HR6 HB6 HS6
    go_wp2
    go_ret
    exact ⟨rfl, hE7⟩
  have hd4 : decide (cut < 0) = false := by simpa using h4
  by_cases h5 : (body.length : Int) + 11 ≤ cut
  · have hd5 : decide ((body.length : Int) + 11 ≤ cut) = true := by simpa using h5
    go_enter Try.func4, Try.ntmps4
    go_wp2_with fail
    refine (awake_any _).mono ?_
    rintro e w1 ⟨rfl, hw1⟩
    have HX := hid (hw1.obj (heap_alloc_new w _))
    obtain ⟨c0, c1, -, -⟩ := blk2 HX.out
    have hE := (Ext.alloc _ _).trans hw1
    clear hw1
    go_wp2_with fail
    refine (fbytes_any ⟨kk, body⟩ _ _ (HB.out.ext hE)).mono ?_
    rintro e w2 ⟨r, rfl, hr, hw2⟩
    rw [HR.out] at hr ⊢
    simp only [] at hr
    obtain ⟨ro, rc, rfl, -, -, -, -⟩ := hr.byt.open
    rw [HFL.out] at hr ⊢
    clear c0 c1
    have HX2 := hid (hw2.obj HX.out)
    obtain ⟨c0, c1, -, -⟩ := blk2 HX2.out
    have hE2 := hE.trans hw2
    have HR2 := hid hr
    clear hr hw2 hE HX
    have hsz2 := hE2.size
    go_wp2_with (first
      | (at_builtin; refine wpList_append_byt rfl (.tmp 43) (.tmp 44) 22 rfl w2.heap.size 5 Try.underlying22 info5 rfl (own_lit w2 _ _ [] _ rfl 0 rfl (Nat.le_refl _) (by simp [maxLen])) rfl (HR2.out.byt.ext (Ext.alloc _ _)) (body.length + 11) (by rw [HFL.out]; simp) (by omega) (by simp) ?_; intro ao3 cap3 w3 hown3 hg3 hb3)
      | (at_builtin; refine wpList_append_byt rfl (.tmp 45) (.tmp 46) 22 rfl w2.heap.size 5 Try.underlying22 info5 rfl (show Own w3 w2.heap.size 5 _ fb from hown3) rfl (HC.out.ext (hE2.trans ((Ext.alloc _ _).below hb3))) (body.length + 11 + m.length) (by rw [HFL.out]) (by omega) (Nat.le_trans (by simp) hb3.size) ?_; intro ao4 cap4 w4 hown4 hg4 hb4)
      | fail)
    have hx4 : Ext w2 w4 := ((Ext.alloc w2 _).below hb3).below hb4
    refine (read_any _ (fb ++ m) _ hown4.byt (by simp [HFL.out]; omega)).mono ?_
    rintro e w5 ⟨r5, rfl, hr5, hw5⟩
    rw [HRD.out] at hr5 ⊢
    simp only [] at hr5
    obtain ⟨so, sc, rfl, -, -, -, -⟩ := hr5.byt.open
    have hx5 := hx4.trans hw5
    have hxx := hx5.trans (Ext.alloc w5 (.cells #[.int .u8 (kk.toNat : Int), .slice so body.length sc] 24))
    have hE6 := hE2.trans hxx
    have HY := hid (heap_alloc_new w5 (.cells #[.int .u8 (kk.toNat : Int), .slice so body.length sc] 24))
    have HX6 := hid (hxx.obj HX2.out)
    have HR6 := hid (HR2.out.ext hxx)
    have HB6 := hid (HB.out.ext hE6)
    have HS6 := hid (hr5.byt.ext (Ext.alloc w5 (.cells #[.int .u8 (kk.toNat : Int), .slice so body.length sc] 24)))
    clear c0 c1 hown3 hg3 hb3 hown4 hg4 hb4 hx4 hr5 hw5 hx5 hxx HX2 HR2 hE2
    obtain ⟨c0, c1, -, -⟩ := blk2 HX6.out
    obtain ⟨y0, y1, -, -⟩ := blk2 HY.out
    go_wp2_with fail
    generalize w5.heap.size = b5 at *
    generalize w5.alloc (.cells #[.int .u8 (kk.toNat : Int), .slice so body.length sc] 24) = W5 at *
    refine (same_any ⟨kk, body⟩ ⟨kk, body⟩ _ _ _ HB6.out HS6.out).mono ?_
    rintro e w7 ⟨rfl, hw7⟩
    rw [HSB.out]
    have hE7 := hE6.trans hw7
    have HR7 := hid (HR6.out.ext hw7)
    clear hE6 hw7 c0 c1 y0 y1 HY HX6 HR6 HB6 HS6
    go_wp2
    go_ret
    exact ⟨rfl, hE7⟩
  have hd5 : decide ((body.length : Int) + 11 ≤ cut) = false := by simpa using h5
  obtain ⟨k, rfl⟩ := Int.eq_ofNat_of_zero_le (show 0 ≤ cut by omega)
  have hk : k < body.length + 11 := by omega
  go_enter Try.func4, Try.ntmps4
  go_wp2_with fail
  refine (awake_any _).mono ?_
  rintro e w1 ⟨rfl, hw1⟩
  have HX := hid (hw1.obj (heap_alloc_new w _))
  obtain ⟨c0, c1, -, -⟩ := blk2 HX.out
  have hE := (Ext.alloc _ _).trans hw1
  clear hw1
  go_wp2_with fail
  refine (fbytes_any ⟨kk, body⟩ _ _ (HB.out.ext hE)).mono ?_
  rintro e w2 ⟨r, rfl, hr, hw2⟩
  rw [HR.out] at hr ⊢
  simp only [] at hr
  obtain ⟨ro, rc, rfl, hrc, hrc2, -, -⟩ := hr.byt.open
  rw [HFL.out] at hr hrc ⊢
  clear c0 c1
  have HX2 := hid (hw2.obj HX.out)
  obtain ⟨c0, c1, -, -⟩ := blk2 HX2.out
  have hE2 := hE.trans hw2
  have HR2 := hid hr
  clear hr hw2 hE HX
  have hsz2 := hE2.size
  go_wp2_with (first
    | (at_builtin; refine wpList_append_byt rfl (.tmp 43) (.tmp 44) 22 rfl w2.heap.size 5 Try.underlying22 info5 rfl (own_lit w2 _ _ [] _ rfl 0 rfl (Nat.le_refl _) (by simp [maxLen])) rfl (HR2.out.byt.ext (Ext.alloc _ _)) (body.length + 11) (by rw [HFL.out]; simp) (by omega) (by simp) ?_; intro ao3 cap3 w3 hown3 hg3 hb3)
    | (at_builtin; refine wpList_append_byt rfl (.tmp 45) (.tmp 46) 22 rfl w2.heap.size 5 Try.underlying22 info5 rfl (show Own w3 w2.heap.size 5 _ fb from hown3) rfl (HC.out.ext (hE2.trans ((Ext.alloc _ _).below hb3))) (body.length + 11 + m.length) (by rw [HFL.out]) (by omega) (Nat.le_trans (by simp) hb3.size) ?_; intro ao4 cap4 w4 hown4 hg4 hb4)
    | fail)
  have hx4 : Ext w2 w4 := ((Ext.alloc w2 _).below hb3).below hb4
  refine (read_any _ (fb ++ m) _ hown4.byt (by simp [HFL.out]; omega)).mono ?_
  rintro e w5 ⟨r5, rfl, hr5, hw5⟩
  rw [HRD.out] at hr5 ⊢
  simp only [] at hr5
  obtain ⟨so, sc, rfl, -, -, -, -⟩ := hr5.byt.open
  have hx5 := hx4.trans hw5
  have hxx := hx5.trans (Ext.alloc w5 (.cells #[.int .u8 (kk.toNat : Int), .slice so body.length sc] 24))
  have hE6 := hE2.trans hxx
  have HY := hid (heap_alloc_new w5 (.cells #[.int .u8 (kk.toNat : Int), .slice so body.length sc] 24))
  have HX6 := hid (hxx.obj HX2.out)
  have HR6 := hid (HR2.out.ext hxx)
  have HB6 := hid (HB.out.ext hE6)
  have HS6 := hid (hr5.byt.ext (Ext.alloc w5 (.cells #[.int .u8 (kk.toNat : Int), .slice so body.length sc] 24)))
  clear c0 c1 hown3 hg3 hb3 hown4 hg4 hb4 hx4 hr5 hw5 hx5 hxx HX2 HR2 hE2
  obtain ⟨c0, c1, -, -⟩ := blk2 HX6.out
  obtain ⟨y0, y1, -, -⟩ := blk2 HY.out
  go_wp2_with fail
  generalize w5.heap.size = b5 at *
  generalize w5.alloc (.cells #[.int .u8 (kk.toNat : Int), .slice so body.length sc] 24) = W5 at *
  refine (same_any ⟨kk, body⟩ ⟨kk, body⟩ _ _ _ HB6.out HS6.out).mono ?_
  rintro e w7 ⟨rfl, hw7⟩
  rw [HSB.out]
  have hE7 := hE6.trans hw7
  have HR7 := hid (HR6.out.ext hw7)
  clear hE6 hw7 c0 c1 y0 y1 HY HX6 HR6 HB6 HS6
  have hp7 : Byt w7 (.slice ro k rc) (fb.take k) := by
    have := Byt.part HR7.out.byt 0 k (by omega) (by rw [HFL.out]; omega) ro (by split <;> simp [Addr.add])
    simpa using this
  have HP7 := hid hp7
  have HSK := hid (HSH.out k hk)
  clear hp7
  go_wp2_with fail
  refine (read_any _ (fb.take k) _ HP7.out (by simp [HFL.out]; omega)).mono ?_
  rintro e w8 ⟨r8, rfl, hr8, hw8⟩
  rw [HSK.out] at hr8 ⊢
  simp only [] at hr8
  obtain ⟨to, tc, rfl, -, -, -, -⟩ := hr8.byt.open
  have hE9 := (hE7.trans hw8).trans (Ext.alloc w8 (.cells #[.int .u8 0, .slice to 0 tc] 24))
  clear hr8 hw8
  go_wp2
  go_ret
  exact ⟨rfl, hE9⟩
end Go.Proofs.Ytbecahknondmeaa
