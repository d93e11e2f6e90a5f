/- The statements of layer 4: awake. -/
import Derived.Test.YtbecahknondmeaaFrmF
import Derived.Test.YtbecahknondmeaaFrmG
import Derived.Test.YtbecahknondmeaaKeep
import Derived.Test.YtbecahknondmeaaRef01B
namespace Go.Proofs.Ytbecahknondmeaa
open Go.RowKit Go.Tum Go.Tum.Crc

theorem one_lit (w : World) (x : Int) (b : UInt8) (h : x = (b.toNat : Int)) : Byt (w.alloc (.cells #[.int .u8 x] 5)) (.slice (some ⟨w.heap.size, 0, none⟩) 1 1) [b] := Byt.one w 5 x b h

theorem one_lit2 (w : World) (o : Obj) (x : Int) (b : UInt8) (h : x = (b.toNat : Int)) : Byt ((w.alloc o).alloc (.cells #[.int .u8 x] 5)) (.slice (some ⟨w.heap.size + 1, 0, none⟩) 1 1) [b] := by
  have := one_lit (w.alloc o) x b h
  rwa [World.size_alloc] at this

set_option maxRecDepth 100000 in
set_option maxHeartbeats 2000000 in
theorem awake_any (w : World) : Calls Try.prog 8 #[] w fun e w' => e = .returned (.bool true) ∧ Ext w w' := by
  obtain ⟨fb, hfb⟩ : ∃ fb, fbytes ⟨1, [2]⟩ = fb := ⟨_, rfl⟩
  have h1 : fbytesR ⟨1, [2]⟩ = (fb, 0) := by unfold fbytesR; rw [if_neg (by decide), hfb]
  have h2 : fread (fb ++ [9]) = (⟨1, [2]⟩, 12, 0) := by rw [← hfb]; exact fread_fbytes ⟨1, [2]⟩ [9] (by decide)
  have h3 : fread [1] = (f0, 0, 3) := by decide +kernel
  have h4 : fall (fb ++ [9]) = ([⟨1, [2]⟩], 12, 3) := by rw [← hfb]; decide +kernel
  have h5 : fb.length = 12 := by rw [← hfb]; exact fbytes_length _
  have H1 := hid h1
  have H2 := hid h2
  have H3 := hid h3
  have H4 := hid h4
  have H5 := hid h5
  have HS := hid (samesB_eq (l := [(⟨1, [2]⟩ : Fr)]) rfl)
  have HSB := hid (show sameB ⟨1, [2]⟩ ⟨1, [2]⟩ = true by decide)
  clear h1 h2 h3 h4 h5 hfb
  go_enter Try.func8, Try.ntmps8
  go_wp2_with fail
  refine (fbytes_any ⟨1, [2]⟩ _ _ (one_lit w 2 2 rfl)).mono ?_
  rintro e w1 ⟨r, rfl, hr, hw1⟩
  rw [H1.out] at hr ⊢
  simp only [] at hr
  obtain ⟨ao, cap, rfl, -, -, -, -⟩ := hr.byt.open
  rw [H5.out] at hr ⊢
  have hE1 : Ext w w1 := (Ext.alloc _ _).trans hw1
  have hsz1 : w.heap.size ≤ w1.heap.size := hE1.size
  have HR := hid (hr.mono (show w.heap.size ≤ _ by simp))
  clear hr hw1
  go_wp2_with (first
    | (at_builtin; refine wpList_append_keep rfl (.tmp 19) (.tmp 20) 22 rfl w.heap.size 5 Try.underlying22 info5 rfl (HR.out.ext (Ext.alloc _ _)) rfl (one_lit w1 9 9 rfl) 13 (by rw [H5.out]; rfl) (by omega) (by simp; omega) ?_; intro ao2 cap2 w2 hown2 hold2 hg2 hb2)
    | fail)
  refine (read_any _ (fb ++ [9]) _ hown2.byt (by simp [H5.out])).mono ?_
  rintro e w3 ⟨r3, rfl, hr3, hw3⟩
  rw [H2.out] at hr3 ⊢
  simp only [] at hr3
  have hold3 : Own w2 w.heap.size 5 (.slice ao 12 cap) fb := hold2
  obtain ⟨so, sc, rfl, -, -, -, -⟩ := hr3.byt.open
  have hE2 : Ext w w2 := (hE1.trans (Ext.alloc _ _)).below hb2
  have hE3 := hE2.trans hw3
  have HLT := hid (show ∀ g, (Value.slice ao 12 cap).ownBlock = some g → g < w2.heap.size from fun g hg => (World.ownsRow.lt hold3 g hg).2)
  have hb23 : w2.heap.size ≤ w3.heap.size := hw3.size
  have HR3 := hid (((hold3.ext hw3).ext (Ext.alloc _ (.cells #[.int .u8 1, .slice so 1 sc] 24))).ext (Ext.alloc _ (.cells #[.int .u8 1] 5)))
  have HX := hid ((Ext.alloc (w3.alloc (.cells #[.int .u8 1, .slice so 1 sc] 24)) (.cells #[.int .u8 1] 5)).obj (heap_alloc_new w3 (.cells #[.int .u8 1, .slice so 1 sc] 24)))
  have HB3 := hid ((hr3.ext (Ext.alloc _ (.cells #[.int .u8 1, .slice so 1 sc] 24))).ext (Ext.alloc _ (.cells #[.int .u8 1] 5)))
  have hE4 := (hE3.trans (Ext.alloc _ (.cells #[.int .u8 1, .slice so 1 sc] 24))).trans (Ext.alloc _ (.cells #[.int .u8 1] 5))
  have hL3 := one_lit2 w3 (.cells #[.int .u8 1, .slice so 1 sc] 24) 1 1 rfl
  clear hr3 hold3 hold2 hown2 hg2 hb2 hw3 hE1 hE2 hE3 HR
  go_wp2_with fail
  generalize w3.heap.size = b3 at *
  generalize (w3.alloc (.cells #[.int .u8 1, .slice so 1 sc] 24)).alloc (.cells #[.int .u8 1] 5) = W3 at *
  refine (read_any _ [1] _ hL3 (by simp)).mono ?_
  rintro e w4 ⟨r4, rfl, hr4, hw4⟩
  rw [H3.out] at hr4 ⊢
  simp only [] at hr4
  obtain ⟨to, tc, rfl, -, -, -, -⟩ := hr4.byt.open
  have hE5 := hE4.trans hw4
  have hsz5 := hE5.size
  have HR5 := hid (HR3.out.ext hw4)
  have HX5 := hid (hw4.obj HX.out)
  have HB5 := hid (HB3.out.ext hw4)
  clear hr4 hw4 hE4 HR3 HX HB3
  go_wp2_with (first
    | (at_builtin; refine wpList_append_keep rfl (.tmp 33) (.tmp 34) 22 rfl w.heap.size 5 Try.underlying22 info5 rfl ((HR5.out.ext (Ext.alloc _ _)).ext (Ext.alloc _ _)) rfl (one_lit2 _ _ 9 9 rfl) 13 (by rw [H5.out]; rfl) (by omega) (by simp; omega) ?_; intro ao6 cap6 w6 hown6 hold6 hg6 hb6)
    | fail)
  refine (all_any _ (fb ++ [9]) _ hown6.byt (by simp [H5.out])).mono ?_
  rintro e w7 ⟨r7, rfl, hr7, hw7⟩
  rw [H4.out] at hr7 ⊢
  simp only [] at hr7
  obtain ⟨uo, uc, rfl⟩ := hr7.open
  have hE7 : Ext w w7 := (((hE5.trans (Ext.alloc _ _)).trans (Ext.alloc _ _)).below hb6).trans hw7
  have HX7 := hid (hw7.obj (obj_young (((Ext.alloc _ _).trans (Ext.alloc _ _)).obj HX5.out) HLT.out hb23 hg6))
  have HB7 := hid ((own_young ((HB5.out.ext (Ext.alloc _ _)).ext (Ext.alloc _ _)) HLT.out (Nat.le_refl _) hg6).ext hw7)
  obtain ⟨c0, c1, -, -⟩ := blk2 HX7.out
  clear hr7 hw7 hold6 hown6 hg6 hb6
  go_wp2_with fail
  refine (same_any ⟨1, [2]⟩ ⟨1, [2]⟩ _ _ _ HB7.out.byt HB7.out.byt).mono ?_
  rintro e w8 ⟨rfl, hw8⟩
  rw [HSB.out]
  go_wp2_with fail
  go_ret
  exact ⟨rfl, hE7.trans hw8⟩
end Go.Proofs.Ytbecahknondmeaa
