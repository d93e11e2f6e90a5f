/- The statements of records: awake. -/
import Derived.Test.YtafdandnbbbdfaaDoorRecO
namespace Go.Proofs.YtafdandnbbbdfaaDoor
open Go.RowKit Go.Tum Go.Tum.Crc Go.Tum.Vint

abbrev t7 : Rc := ⟨7, [5], []⟩
theorem t7_right : rightB t7 = true := by decide
theorem t7_len : (fbytes (recFr t7)).length = 12 := by
  rw [fbytes_length]; decide
theorem t7_bytes : recBytes t7 = (fbytes (recFr t7), 0) := recBytes_ok t7_right
theorem t7_all : rall 0 (fbytes (recFr t7) ++ [1]) = ([t7], [12], 3) := by
  have h1 := fread_fbytes (recFr t7) [1] (body_le t7_right |> fun h => h)
  have h2 : (recFr t7).body.length + 11 = 12 := by decide
  rw [h2] at h1
  have hne : fbytes (recFr t7) ++ [1] ≠ [] := by simp
  rw [rall_ok hne (by rw [h1]) (by rw [h1]; rw [recRead_fr t7_right]), h1]
  simp only []
  rw [recRead_fr t7_right]
  have h3 : (fbytes (recFr t7) ++ [1]).drop 12 = [1] := by
    rw [← t7_len, List.drop_left]
  rw [h3]
  have h4 : rall (0 + 12) [1] = ([], [], 3) := by
    rw [rall_bad (by simp) (by decide)]
    decide
  rw [h4]
theorem RcsO.one {w : World} {base T : Nat} {v : Value} {z : Rc} (h : RcsO w base T v [z]) :
    ∃ g cap q, v = .slice (some ⟨g, 0, none⟩) 1 cap ∧ w.cell? ⟨g, 0, none⟩ = some (.int .i64 z.kind) ∧ w.cell? ⟨g, 1, none⟩ = some q ∧ w.cell? ⟨g, 2, none⟩ = some (.string (str z.text)) ∧ OwV uv w base 60 q z.n := by
  obtain ⟨m, hm, h2, h3⟩ := h
  obtain ⟨p, rfl⟩ : ∃ p, m = [p] := by
    match m, hm with
    | [p], _ => exact ⟨p, rfl⟩
  simp only [List.map_cons, List.map_nil, List.cons.injEq, and_true] at hm
  subst hm
  rcases h2.2 with ⟨_, e2⟩ | ⟨g, c, cur, rfl, _⟩
  · simp at e2
  · have hc := @World.ownsRow.cells w base T 3 _ _ _ h2 g rfl
    refine ⟨g, c, p.2, rfl, ?_, ?_, ?_, h3 p (by simp)⟩
    · exact hc 0 _ rfl
    · exact hc 1 _ rfl
    · exact hc 2 _ rfl

set_option maxRecDepth 100000 in
set_option maxHeartbeats 4000000 in
theorem awake_any (w : World) (ht : Tab w) : Calls Tryd.prog 7 #[] w fun e w' => e = .returned (.bool true) ∧ Ext w w' := by
  have HT := hid ht
  clear ht
  go_enter Tryd.func7, Tryd.ntmps7
  go_wp2_with fail
  have hv1 := Vec.one (f := uv) w 60 (.int .u64 5) 5 rfl
  have hE1 := Ext.alloc w (.cells #[.int .u64 5] 60)
  generalize w.alloc (.cells #[.int .u64 5] 60) = W at *
  have HE := hid hE1
  refine (bytes5_any t7 _ _ hv1 (HT.out.ext HE.out)).mono ?_
  rintro e w1 ⟨r, rfl, hr, hw1⟩
  rw [t7_bytes] at hr ⊢
  simp only [] at hr
  obtain ⟨FB, hFB⟩ : ∃ FB, fbytes (recFr t7) = FB := ⟨_, rfl⟩
  have hlen : FB.length = 12 := by rw [← hFB]; exact t7_len
  have hall : rall 0 (FB ++ [1]) = ([t7], [12], 3) := by rw [← hFB]; exact t7_all
  rw [hFB] at hr
  have HALL := hid hall
  have HLEN := hid hlen
  obtain ⟨bo, bc, rfl, -⟩ := hr.byt.open
  rw [hlen] at hr
  have HR := hid hr
  have HE1 := hid (HE.out.trans hw1)
  have hsz1 := hw1.size
  have HWS := hid HE.out.size
  clear hE1 hv1 hr hw1 hFB hall hlen
  rw [HLEN.out]
  go_wp2_with (at_builtin; refine wpList_append_byt rfl (.tmp 17) (.tmp 18) 25 rfl W.heap.size 5 Tryd.underlying25 info8 rfl (HR.out.ext (Ext.alloc _ _)) rfl (Byt.one _ _ _ 1 rfl) 13 (by rw [HLEN.out]; rfl) (by decide) (by simp; omega) ?_; intro ao2 cap2 w2 hown2 hg2 hb2; obtain ⟨HO2, HB2⟩ := And.intro (hid hown2) (hid hb2); clear hown2 hg2 hb2)
  have hx2 : Ext w w2 := Below.trans (HE1.out.trans (Ext.alloc _ (.cells #[.int .u8 1] 5))) (HB2.out.mono HWS.out)
  have HE2 := hid hx2
  clear hx2
  have hcall := all5_any _ (FB ++ [1]) _ HO2.out.byt (by rw [List.length_append, HLEN.out]; decide) (HT.out.ext HE2.out)
  unfold AllR5 at hcall
  rw [HALL.out] at hcall
  refine hcall.mono ?_
  rintro e w3 ⟨vl, ul, rfl, hl3, hu3, hw3⟩
  clear hcall
  simp only [] at hl3 hu3
  obtain ⟨g, lc, q, rfl, k0, k1, k2, hq⟩ := hl3.one
  obtain ⟨uo, uc, rfl, -⟩ := hu3.vec.open
  obtain ⟨qo, qc, rfl, -⟩ := hq.vec.open
  have HE3 := hid (HE2.out.trans hw3)
  have HQ := hid hq.vec
  have HU := hid hu3.vec
  have HK := hid (And.intro k0 (And.intro k1 k2))
  clear hl3 hu3 hq hw3 k0 k1 k2
  go_wp2_with fail
  refine (bytes5_any ⟨7, [], []⟩ _ _ (Vec.nil _) (HT.out.ext HE3.out)).mono ?_
  rintro e w4 ⟨r4, rfl, hr4, hw4⟩
  have hb4 : recBytes ⟨7, [], []⟩ = ([], 1) := by decide
  rw [hb4] at hr4 ⊢
  obtain ⟨ro, rc, rfl, -⟩ := hr4.byt.open
  have HE4 := hid (HE3.out.trans hw4)
  have HQ4 := hid (HQ.out.ext hw4)
  have HU4 := hid (HU.out.ext hw4)
  have HK4 := hid (And.intro (hw4.cell HK.out.1) (And.intro (hw4.cell HK.out.2.1) (hw4.cell HK.out.2.2)))
  clear hr4 hw4 hb4
  go_wp2_with fail
  refine (read5_any ⟨99, []⟩ _ _ (show Byt _ (.slice none 0 0) [] from Sl.nil _ _) (HT.out.ext HE4.out)).mono ?_
  rintro e w5 ⟨r5, rfl, hr5, hw5⟩
  have hb5 : recRead ⟨99, []⟩ = (r0, 2) := by decide
  rw [hb5] at hr5 ⊢
  obtain ⟨so, sc, rfl, -⟩ := hr5.vec.open
  have HE5 := hid (HE4.out.trans hw5)
  have HQ5 := hid (HQ4.out.ext hw5)
  have HU5 := hid (HU4.out.ext hw5)
  have HK5 := hid (And.intro (hw5.cell HK4.out.1) (And.intro (hw5.cell HK4.out.2.1) (hw5.cell HK4.out.2.2)))
  clear hr5 hw5 hb5
  go_wp2_with fail
  have hx5 := Ext.alloc w5 (.cells #[.int .i64 0, .slice so 0 sc, .string (str [])] 24)
  have hv5 := Vec.one (f := iv) (w5.alloc (.cells #[.int .i64 0, .slice so 0 sc, .string (str [])] 24)) 3 (.int .i64 12) 12 rfl
  have hx6 := hx5.trans (Ext.alloc _ (.cells #[.int .i64 12] 3))
  rw [World.size_alloc] at hv5
  generalize (w5.alloc (.cells #[.int .i64 0, .slice so 0 sc, .string (str [])] 24)).alloc (.cells #[.int .i64 12] 3) = W6 at *
  have HQ6 := hid (HQ5.out.ext hx6)
  have HU6 := hid (HU5.out.ext hx6)
  have HE6 := hid (HE5.out.trans hx6)
  have HK6 := hid (And.intro (hx6.cell HK5.out.1) (And.intro (hx6.cell HK5.out.2.1) (hx6.cell HK5.out.2.2)))
  clear hx5 hx6
  refine (ints_any _ _ [12] [12] _ HU6.out hv5).mono ?_
  rintro e w7 ⟨rfl, hw7⟩
  obtain ⟨k0, k1, k2⟩ := HK6.out
  have c0 := hw7.cell k0
  have c1 := hw7.cell k1
  have c2 := hw7.cell k2
  have HQ7 := hid (HQ6.out.ext hw7)
  have HE7 := hid (HE6.out.trans hw7)
  clear k0 k1 k2 hw7 hv5
  go_wp2_with fail
  have hv7 := Vec.one (f := uv) w7 60 (.int .u64 5) 5 rfl
  have hx7 := Ext.alloc w7 (.cells #[.int .u64 5] 60)
  generalize w7.alloc (.cells #[.int .u64 5] 60) = W8 at *
  refine (same5_any t7 t7 _ _ _ (HQ7.out.ext hx7) hv7).mono ?_
  rintro e w8 ⟨rfl, hw8⟩
  have hs : recSame t7 t7 = true := by simp [recSame]
  rw [hs]
  have d0 := hw8.cell (hx7.cell c0)
  have d1 := hw8.cell (hx7.cell c1)
  have d2 := hw8.cell (hx7.cell c2)
  have HQ8 := hid (HQ7.out.ext (hx7.trans hw8))
  have HE8 := hid (HE7.out.trans (hx7.trans hw8))
  clear c0 c1 c2 hx7 hw8 hv7 hs
  go_wp2_with fail
  refine (right_any t7 _ _ HQ8.out (HT.out.ext HE8.out)).mono ?_
  rintro e w9 ⟨rfl, hw9⟩
  rw [t7_right]
  have HE9 := hid (HE8.out.trans hw9)
  clear hw9 d0 d1 d2
  go_wp2
  go_ret
  exact ⟨rfl, HE9.out⟩
end Go.Proofs.YtafdandnbbbdfaaDoor
