/- RecordBack. -/
import Derived.Test.YtafdandnbbbdfaaDoorLaw05
import Derived.Test.YtafdandnbbbdfaaDoorFrmD
namespace Go.Proofs.YtafdandnbbbdfaaDoor
open Go.RowKit Go.Tum Go.Tum.Crc Go.Tum.Vint

set_option maxRecDepth 100000 in
set_option maxHeartbeats 1000000 in
theorem recordBack_law (r : Rc) (v : Value) (x : Fr) (u : Value) (w : World) (hv : Vec uv w v r.n) (hx : Byt w u x.body) (ht : Tab w) :
    Calls Tryd.prog 5 #[rv r v, fv x u] w fun e w' => e = .returned (.bool true) ∧ Ext w w' := by
  obtain ⟨ao, cap, rfl, -⟩ := hv.open
  obtain ⟨bo, cbp, rfl, -⟩ := hx.open
  obtain ⟨rk, rn, rt⟩ := r
  obtain ⟨xk, xb⟩ := x
  have HV := hid hv
  have HX := hid hx
  have HT := hid ht
  clear hv hx ht
  obtain ⟨LB, hLB⟩ : ∃ LB, largeB ⟨rk, rn, rt⟩ = LB := ⟨_, rfl⟩
  obtain ⟨RB, hRB⟩ : ∃ RB, rightB ⟨rk, rn, rt⟩ = RB := ⟨_, rfl⟩
  have HLB := hid hLB
  have HRB := hid hRB
  clear hLB hRB
  have hE1 := Ext.alloc w (.cells #[.int .i64 rk, .slice ao rn.length cap, .string (str rt)] 24)
  have hS1 : (w.alloc (.cells #[.int .i64 rk, .slice ao rn.length cap, .string (str rt)] 24)).heap.size = w.heap.size + 1 := by simp
  have hA := heap_alloc_new w (.cells #[.int .i64 rk, .slice ao rn.length cap, .string (str rt)] 24)
  go_enter Tryd.func5, Tryd.ntmps5
  go_wp2_with fail
  generalize w.alloc (.cells #[.int .i64 rk, .slice ao rn.length cap, .string (str rt)] 24) = W1 at *
  have hE2 := Ext.alloc W1 (.cells #[.int .u8 (xk.toNat : Int), .slice bo xb.length cbp] 27)
  have hB := heap_alloc_new W1 (.cells #[.int .u8 (xk.toNat : Int), .slice bo xb.length cbp] 27)
  rw [hS1] at hB
  generalize W1.alloc (.cells #[.int .u8 (xk.toNat : Int), .slice bo xb.length cbp] 27) = W2 at *
  have HA2 := hid (hE2.obj hA)
  have HB2 := hid hB
  have HE2 := hid (hE1.trans hE2)
  clear hE1 hE2 hA hB hS1
  refine (awake_any _ (HT.out.ext HE2.out)).mono ?_
  rintro e W3 ⟨rfl, hw⟩
  have HA3 := hid (hw.obj HA2.out)
  have HB3 := hid (hw.obj HB2.out)
  have HE3 := hid (HE2.out.trans hw)
  clear hw
  obtain ⟨a0, a1, a2⟩ := blk3 HA3.out
  go_wp2_with fail
  refine (large_any ⟨rk, rn, rt⟩ _ _ (HV.out.ext HE3.out)).mono ?_
  rintro e W4 ⟨rfl, hw⟩
  rw [HLB.out]
  have HA4 := hid (hw.obj HA3.out)
  have HB4 := hid (hw.obj HB3.out)
  have HE4 := hid (HE3.out.trans hw)
  clear hw a0 a1 a2
  obtain ⟨a0, a1, a2⟩ := blk3 HA4.out
  obtain ⟨b0, b1, -⟩ := blk2 HB4.out
  cases LB with
  | true =>
    go_wp2
    go_ret
    exact ⟨rfl, HE4.out⟩
  | false =>
    by_cases hlong : 1200 < xb.length
    · have hd : decide ((1200 : Int) < xb.length) = true := by simp; omega
      go_wp2
      go_ret
      exact ⟨rfl, HE4.out⟩
    have hd : decide ((1200 : Int) < xb.length) = false := by simp; omega
    go_wp2_with fail
    clear hd
    refine (bytes5_any ⟨rk, rn, rt⟩ _ _ (HV.out.ext HE4.out) (HT.out.ext HE4.out)).mono ?_
    rintro e W5 ⟨p, rfl, hp, hw⟩
    have HA5 := hid (hw.obj HA4.out)
    have HB5 := hid (hw.obj HB4.out)
    have HE5 := hid (HE4.out.trans hw)
    clear hw a0 a1 a2 b0 b1
    cases RB with
    | false =>
      rw [recBytes_bad HRB.out] at hp ⊢
      obtain ⟨po, pc, rfl, -⟩ := hp.byt.open
      clear hp
      obtain ⟨a0, a1, a2⟩ := blk3 HA5.out
      go_wp2_with fail
      refine (right_any ⟨rk, rn, rt⟩ _ _ (HV.out.ext HE5.out) (HT.out.ext HE5.out)).mono ?_
      rintro e W6 ⟨rfl, hw⟩
      rw [HRB.out]
      have hE6 := HE5.out.trans hw
      clear hw
      go_wp2
      go_ret
      exact ⟨rfl, hE6⟩
    | true =>
      have hb := body_le HRB.out
      have hfl : (fbytes (recFr ⟨rk, rn, rt⟩)).length = (recFr ⟨rk, rn, rt⟩).body.length + 11 := fbytes_length _
      have hfr := fread_fbytes (recFr ⟨rk, rn, rt⟩) [] hb
      rw [List.append_nil] at hfr
      have hrd := recRead_fr HRB.out
      rw [recBytes_ok HRB.out] at hp ⊢
      simp only [] at hp
      obtain ⟨Y, hY⟩ : ∃ Y, recFr ⟨rk, rn, rt⟩ = Y := ⟨_, rfl⟩
      rw [hY] at hp hfr hrd hfl
      have hb' : Y.body.length ≤ 400 := by rw [← hY]; exact hb
      obtain ⟨FB, hFB⟩ : ∃ FB, fbytes Y = FB := ⟨_, rfl⟩
      rw [hFB] at hp hfr hfl
      obtain ⟨po, pc, rfl, -⟩ := hp.byt.open
      have HP := hid hp.byt
      have HFR := hid hfr
      have HRD := hid hrd
      have HFL := hid hfl
      clear hp hfr hrd hY hFB hb hfl
      obtain ⟨a0, a1, a2⟩ := blk3 HA5.out
      go_wp2_with fail
      refine (right_any ⟨rk, rn, rt⟩ _ _ (HV.out.ext HE5.out) (HT.out.ext HE5.out)).mono ?_
      rintro e W6 ⟨rfl, hw⟩
      rw [HRB.out]
      have HA6 := hid (hw.obj HA5.out)
      have HB6 := hid (hw.obj HB5.out)
      have HE6 := hid (HE5.out.trans hw)
      have HP6 := hid (HP.out.ext hw)
      clear hw a0 a1 a2
      go_wp2_with fail
      refine (read_any _ FB _ HP6.out (by have := HFL.out; omega)).mono ?_
      rintro e W7 ⟨y1, rfl, hy1, hw⟩
      rw [HFR.out] at hy1 ⊢
      simp only [] at hy1
      obtain ⟨yo, yc, rfl, -⟩ := hy1.byt.open
      have HA7 := hid (hw.obj HA6.out)
      have HB7 := hid (hw.obj HB6.out)
      have HE7 := hid (HE6.out.trans hw)
      have HY7 := hid hy1.byt
      clear hw hy1
      obtain ⟨c0, c1, -⟩ := blk2 (heap_alloc_new W7 (.cells #[.int .u8 (Y.kind.toNat : Int), .slice yo Y.body.length yc] 27))
      go_wp2_with fail
      have hw := Ext.alloc W7 (.cells #[.int .u8 (Y.kind.toNat : Int), .slice yo Y.body.length yc] 27)
      generalize W7.alloc (.cells #[.int .u8 (Y.kind.toNat : Int), .slice yo Y.body.length yc] 27) = W8 at *
      have HA8 := hid (hw.obj HA7.out)
      have HB8 := hid (hw.obj HB7.out)
      have HE8 := hid (HE7.out.trans hw)
      have HY8 := hid (HY7.out.ext hw)
      clear hw c0 c1
      refine (read5_any Y _ _ HY8.out (HT.out.ext HE8.out)).mono ?_
      rintro e W9 ⟨s1, rfl, hs1, hw⟩
      rw [HRD.out] at hs1 ⊢
      simp only [] at hs1
      obtain ⟨so, sc, rfl, -⟩ := hs1.vec.open
      have HA9 := hid (hw.obj HA8.out)
      have HB9 := hid (hw.obj HB8.out)
      have HE9 := hid (HE8.out.trans hw)
      have HS9 := hid hs1.vec
      clear hw hs1
      have hfl2 : (((Y.body.length : Int) + 11) != (FB.length : Int)) = false := by
        have := HFL.out
        rw [bne_eq_false_iff_eq]; omega
      obtain ⟨c0, c1, c2⟩ := blk3 (heap_alloc_new W9 (.cells #[.int .i64 rk, .slice so rn.length sc, .string (str rt)] 24))
      have hw := Ext.alloc W9 (.cells #[.int .i64 rk, .slice so rn.length sc, .string (str rt)] 24)
      obtain ⟨a0, a1, a2⟩ := blk3 (hw.obj HA9.out)
      go_wp2_with fail
      generalize W9.alloc (.cells #[.int .i64 rk, .slice so rn.length sc, .string (str rt)] 24) = W10 at *
      have HA10 := hid (hw.obj HA9.out)
      have HB10 := hid (hw.obj HB9.out)
      have HE10 := hid (HE9.out.trans hw)
      have HS10 := hid (HS9.out.ext hw)
      clear hw c0 c1 c2 a0 a1 a2 hfl2
      refine (same5_any ⟨rk, rn, rt⟩ ⟨rk, rn, rt⟩ _ _ _ HS10.out (HV.out.ext HE10.out)).mono ?_
      rintro e W11 ⟨rfl, hw⟩
      have hs : recSame ⟨rk, rn, rt⟩ ⟨rk, rn, rt⟩ = true := by simp [recSame]
      rw [hs]
      have HB11 := hid (hw.obj HB10.out)
      have HE11 := hid (HE10.out.trans hw)
      clear hw hs
      obtain ⟨b0, b1, -⟩ := blk2 HB11.out
      go_wp2_with fail
      clear b0 b1
      obtain ⟨z, er, hz⟩ : ∃ z er, recRead ⟨xk, xb⟩ = (z, er) := ⟨_, _, rfl⟩
      refine (read5_any ⟨xk, xb⟩ _ _ (HX.out.ext HE11.out) (HT.out.ext HE11.out)).mono ?_
      rintro e W12 ⟨s2, rfl, hs2, hw⟩
      rw [hz] at hs2 ⊢
      simp only [] at hs2
      obtain ⟨qo, qc, rfl, -⟩ := hs2.vec.open
      have HB12 := hid (hw.obj HB11.out)
      have HE12 := hid (HE11.out.trans hw)
      have HZ12 := hid hs2.vec
      clear hw hs2
      have hw := Ext.alloc W12 (.cells #[.int .i64 z.kind, .slice qo z.n.length qc, .string (str z.text)] 24)
      have hC := heap_alloc_new W12 (.cells #[.int .i64 z.kind, .slice qo z.n.length qc, .string (str z.text)] 24)
      obtain ⟨c0, c1, c2⟩ := blk3 hC
      by_cases her : er = 0
      · subst her
        have hok := recRead_ok (x := ⟨xk, xb⟩) (by rw [hz])
        rw [hz] at hok
        simp only [] at hok
        obtain ⟨hzr, hzx⟩ := hok
        have hzb := body_le hzr
        have hzb2 := recBytes_ok hzr
        have hzl : xb.length ≤ 400 := by
          have : (recFr z).body.length ≤ 400 := hzb
          rw [hzx] at this
          exact this
        rw [hzx] at hzb2
        have hfr := fread_fbytes ⟨xk, xb⟩ [] hzl
        rw [List.append_nil] at hfr
        have hfl := fbytes_length ⟨xk, xb⟩
        obtain ⟨GB, hGB⟩ : ∃ GB, fbytes ⟨xk, xb⟩ = GB := ⟨_, rfl⟩
        rw [hGB] at hzb2 hfr hfl
        have HZR := hid hzr
        have HZB := hid hzb2
        have HGF := hid hfr
        have HGL := hid hfl
        have HZL := hid hzl
        clear hzr hzx hzb hzb2 hfr hfl hGB hz hzl
        go_wp2_with fail
        generalize W12.alloc (.cells #[.int .i64 z.kind, .slice qo z.n.length qc, .string (str z.text)] 24) = W13 at *
        have HB13 := hid (hw.obj HB12.out)
        have HC13 := hid hC
        have HE13 := hid (HE12.out.trans hw)
        have HZ13 := hid (HZ12.out.ext hw)
        clear hw hC c0 c1 c2
        refine (bytes5_any z _ _ HZ13.out (HT.out.ext HE13.out)).mono ?_
        rintro e W14 ⟨p2, rfl, hp2, hw⟩
        rw [HZB.out] at hp2 ⊢
        simp only [] at hp2
        obtain ⟨po2, pc2, rfl, -⟩ := hp2.byt.open
        have HB14 := hid (hw.obj HB13.out)
        have HC14 := hid (hw.obj HC13.out)
        have HE14 := hid (HE13.out.trans hw)
        have HZ14 := hid (HZ13.out.ext hw)
        have HP14 := hid hp2.byt
        clear hw hp2
        go_wp2_with fail
        refine (read_any _ GB _ HP14.out (by have h1 := HGL.out; have h2 := HZL.out; omega)).mono ?_
        rintro e W15 ⟨y2, rfl, hy2, hw⟩
        rw [HGF.out] at hy2 ⊢
        simp only [] at hy2
        obtain ⟨yo2, yc2, rfl, -⟩ := hy2.byt.open
        have HB15 := hid (hw.obj HB14.out)
        have HC15 := hid (hw.obj HC14.out)
        have HE15 := hid (HE14.out.trans hw)
        have HZ15 := hid (HZ14.out.ext hw)
        have HY15 := hid hy2.byt
        clear hw hy2
        have hw := Ext.alloc W15 (.cells #[.int .u8 (xk.toNat : Int), .slice yo2 xb.length yc2] 27)
        have hD := heap_alloc_new W15 (.cells #[.int .u8 (xk.toNat : Int), .slice yo2 xb.length yc2] 27)
        obtain ⟨c0, c1, c2⟩ := blk3 (hw.obj HC15.out)
        go_wp2_with fail
        generalize W15.alloc (.cells #[.int .u8 (xk.toNat : Int), .slice yo2 xb.length yc2] 27) = W16 at *
        have HB16 := hid (hw.obj HB15.out)
        have HE16 := hid (HE15.out.trans hw)
        have HZ16 := hid (HZ15.out.ext hw)
        have HY16 := hid (HY15.out.ext hw)
        have HD16 := hid hD
        clear hw c0 c1 c2 hD
        refine (right_any z _ _ HZ16.out (HT.out.ext HE16.out)).mono ?_
        rintro e W17 ⟨rfl, hw⟩
        rw [HZR.out]
        have HB17 := hid (hw.obj HB16.out)
        have HD17 := hid (hw.obj HD16.out)
        have HE17 := hid (HE16.out.trans hw)
        have HY17 := hid (HY16.out.ext hw)
        clear hw
        obtain ⟨b0, b1, -⟩ := blk2 HB17.out
        obtain ⟨d0, d1, -⟩ := blk2 HD17.out
        go_wp2_with fail
        clear b0 b1 d0 d1
        refine (same_any ⟨xk, xb⟩ ⟨xk, xb⟩ _ _ _ HY17.out (HX.out.ext HE17.out)).mono ?_
        rintro e W18 ⟨rfl, hw⟩
        have hs : sameB ⟨xk, xb⟩ ⟨xk, xb⟩ = true := by simp [sameB]
        rw [hs]
        have hE := HE17.out.trans hw
        clear hw hs
        go_wp2
        go_ret
        exact ⟨rfl, hE⟩
      · have hz0 := recRead_err (x := ⟨xk, xb⟩) (by rw [hz]; exact her)
        rw [hz] at hz0
        simp only [] at hz0
        subst hz0
        have he : (er != 0) = true := by simp [her]
        have hE := HE12.out.trans hw
        clear hz her
        go_wp2
        go_ret
        exact ⟨rfl, hE⟩
end Go.Proofs.YtafdandnbbbdfaaDoor
