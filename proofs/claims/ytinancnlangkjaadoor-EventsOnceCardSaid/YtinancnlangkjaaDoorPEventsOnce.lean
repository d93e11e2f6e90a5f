/- For every input the law EventsOnce returns true and leaves what was there as it was; and its card.
EventsOnce. -/
import Derived.Test.YtinancnlangkjaaDoorEvMB
import Derived.Test.YtinancnlangkjaaDoorCards
import Derived.Test.YtinancnlangkjaaDoorTie
import Derived.WalkKit
import Derived.ProofKit
import Derived.OpenShut
import Derived.Below
import Derived.Deep.DeepHandedRow
import Derived.SizedLaws
import Derived.Lib.LaidTab
import Derived.Lib.LaidU8
import Derived.Deep.DeepLaidRun
import Derived.ShutString
import Derived.Test.YtinancnlangkjaaDoorFrame
import Derived.Lib.SmallJoins
set_option linter.unusedSimpArgs false
set_option linter.unusedVariables false
set_option maxRecDepth 100000
namespace Go.Proofs.YtinancnlangkjaaDoor
open Go Go.RowKit Go.Tum Go.ChangeMaps Go.Tum.Crc Go.Tum.Vint Go.Tum.Opm Go.Nam

theorem bW_B {R : Nat} : evB (eU R (evN 1) [] 0) 2 = (0, eW R [] []) := by
  unfold evB
  rw [if_neg (by decide), show (2 : UInt64).toNat = 2 from rfl, evN1, evN2, eW_cre]
  rfl
theorem bW_A1 {R : Nat} {c d : List UInt8} {l : List Oq} (hl : allR l = true) (hr : c.length + d.length + (opsB l).length ≤ R) : evA (eW R c d) 1 l = (0, eW R (c ++ opsB l) d) := by
  unfold evA
  rw [if_neg (by decide), if_pos hl, show (1 : UInt64).toNat = 1 from rfl, evN1, eW_app1 _ _ _ _ hr]
theorem bW_A2 {R : Nat} {c d : List UInt8} {l : List Oq} (hl : allR l = true) (hr : c.length + d.length + (opsB l).length ≤ R) : evA (eW R c d) 2 l = (0, eW R c (d ++ opsB l)) := by
  unfold evA
  rw [if_neg (by decide), if_pos hl, show (2 : UInt64).toNat = 2 from rfl, evN2, eW_app2 _ _ _ _ hr]
theorem bW_L1 {R : Nat} {c d : List UInt8} : evL (eW R c d) 1 = loadB c := by
  unfold evL
  rw [evR_in (by decide), show (1 : UInt64).toNat = 1 from rfl, evN1, (eW_rd1 _ _ _).1, (eW_rd1 _ _ _).2, if_neg (by simp)]
theorem bW_L2 {R : Nat} {c d : List UInt8} : evL (eW R c d) 2 = loadB d := by
  unfold evL
  rw [evR_in (by decide), show (2 : UInt64).toNat = 2 from rfl, evN2, (eW_rd2 _ _ _).1, (eW_rd2 _ _ _).2, if_neg (by simp)]
/-- What the first file holds, and what the first Append answers. -/
def fileL (l : List Oq) : List UInt8 × Nat := if allR l = true then (opsB l, 0) else ([], 1)
theorem fileL_len {l : List Oq} (h : l.length ≤ 20) : (fileL l).1.length ≤ 8220 := by
  unfold fileL
  split
  · rename_i ha; have := opsB_len ha; dsimp only; omega
  · simp
theorem bW_first {l : List Oq} (h : l.length ≤ 20) : evA (eW 65536 [] []) 1 l = ((fileL l).2, eW 65536 (fileL l).1 []) := by
  unfold fileL
  cases ha : allR l with
  | true => rw [if_pos rfl, bW_A1 ha (by have := opsB_len ha; simp only [List.length_nil]; omega)]; rfl
  | false => rw [if_neg (by decide), b_no ha]
theorem load_nil : loadB [] = ([], [], 0) := rfl
set_option maxHeartbeats 4000000 in
theorem eventsOnce_law (v : Value) (l : List Oq) (w : World) (hv : Ops w v l) (hl : l.length * 72 ≤ 140737488355328) (hp : Pw w) (ht : Tab w) :
    Calls Tryd.prog 3 #[v] w fun e w' => e = .returned (.bool true) ∧ Ext w w' := by
  have HV := hid hv
  have HP := hid hp
  have HT := hid ht
  have HL := hid hl
  obtain ⟨ao, cap, rfl, hle, hmx, hnn, hcell⟩ := hv.open
  have HCA := hid (awake17_any w ht hp)
  have HC0 := hid hcell
  have HNN := hid hnn
  clear hv hp ht hnn hcell hl
  go_enter Tryd.func3, Tryd.ntmps3
  go_wp2_with fail
  refine HCA.out.mono ?_
  rintro e w1 ⟨rfl, hx⟩
  have HE1 := hid hx
  have HC := hid (dnew_any w1 w.heap.size hx.size 65536)
  clear hx HCA
  go_wp2_with fail
  refine HC.out.mono ?_
  rintro e w2 ⟨-, h⟩
  obtain ⟨p, x, rfl, d2, hx, -⟩ := h (by decide) (by decide)
  have D2 : Hid (Dk w.heap.size w2 p x (newP 65536)) := hid d2
  have HE2 := hid (HE1.out.trans hx)
  have HW2 : Hid (WF (newP 65536)) := hid (wf_new (by decide))
  clear h d2 hx HC HE1
  have HC := hid (own17_any _ l w2 (HV.out.ext HE2.out) HL.out)
  go_wp2_with fail
  refine HC.out.mono ?_
  rintro e w3 ⟨⟨u, rfl, ho⟩, hx⟩
  obtain ⟨uo, uc, rfl⟩ := OpsO.open ho
  have HE3 := hid (HE2.out.trans hx)
  have D3 := hid (D2.out.ext hx)
  have HC := hid (rlarge12_any _ l w3 ho.ops)
  clear hx ho HE2 D2
  go_wp2_with fail
  refine HC.out.mono ?_
  rintro e w4 ⟨⟨r, rfl, hr⟩, hx⟩
  have HE4 := hid (HE3.out.trans hx)
  have D4 := hid (D3.out.ext hx)
  clear hx HC HE3 D3
  cases r with
  | true =>
    clear hr
    go_wp2
    go_returns
    exact ⟨rfl, HE4.out⟩
  | false =>
    have HLL := hid (hr rfl)
    clear hr
    have HC := hid (do_eq (ebegin_any 1 D4.out HE4.out.size HW2.out (by simp [newP]) (HP.out.ext15 HE4.out)) (bU_B (by decide)) 0 rfl)
    have hw := wf_evB HW2.out 1
    rw [bU_B (by decide)] at hw
    have HW3 := hid hw
    clear hw
    go_wp2_with fail
    refine HC.out.mono ?_
    rintro e w5 ⟨rfl, hs⟩
    obtain ⟨x5, d5, bl, -, -, -⟩ := hs.keep
    have D5 := hid d5
    have HE5 := hid (HE4.out.below bl)
    clear hs d5 bl HC D4 HE4 HW2
    have HC := hid (do_eq (ebegin_any 2 D5.out HE5.out.size HW3.out (by simp [eU]) (HP.out.ext15 HE5.out)) bW_B 0 rfl)
    have hw := wf_evB HW3.out 2
    rw [show (1 : UInt64).toNat = 1 from rfl, bW_B] at hw
    have HW4 := hid hw
    clear hw
    go_wp2_with fail
    refine HC.out.mono ?_
    rintro e w6 ⟨rfl, hs⟩
    obtain ⟨x6, d6, bl, -, -, -⟩ := hs.keep
    have D6 := hid d6
    have HE6 := hid (HE5.out.below bl)
    clear hs d6 bl HC D5 HE5 HW3
    have hF := fileL_len HLL.out.1
    have hc := eappend_any 1 l _ D6.out HE6.out.size HW4.out (HV.out.ext HE6.out) (by have := HLL.out.1; omega) (HP.out.ext15 HE6.out) (HT.out.ext HE6.out)
    have hw := wf_evA HW4.out 1 l
    rw [bW_first HLL.out.1] at hc hw
    have HFT : Hid (allR l = true → fileL l = (opsB l, 0)) := hid (fun h => by unfold fileL; rw [if_pos h])
    have HFF : Hid (allR l = false → fileL l = ([], 1)) := hid (fun h => by unfold fileL; rw [if_neg (by simp [h])])
    obtain ⟨Z, hZ⟩ : ∃ Z, fileL l = Z := ⟨_, rfl⟩
    rw [hZ] at hc hw hF HFT HFF
    obtain ⟨F, en⟩ := Z
    dsimp only at hc hw hF
    have HC := hid hc
    have HW5 := hid hw
    have HF := hid hF
    clear hc hw hF hZ
    go_wp2_with fail
    refine HC.out.mono ?_
    rintro e w7 ⟨rfl, hs⟩
    dsimp only at hs ⊢
    obtain ⟨x7, d7, bl, -, -, -⟩ := hs.keep
    have D7 := hid d7
    have HE7 := hid (HE6.out.below bl)
    clear hs d7 bl HC D6 HE6 HW4
    go_wp2
    go_loopw [50] (fun i wr => ∃ (k : Nat) (x' : DX), k ≤ l.length ∧ i = .int .i64 (k : Int) ∧ Hid (allR (l.take k) = true) ∧ Hid (Dk w.heap.size wr p x' (eW 65536 F (opsB (l.take k)))) ∧ Hid (WF (eW 65536 F (opsB (l.take k)))) ∧ Hid (Ext w wr)) (fun i _ => l.length - (intOf i).toNat)
    case atStart => exact ⟨0, x7, Nat.zero_le _, rfl, hid rfl, D7, HW5, HE7⟩
    case round =>
      clear D7 HW5 HE7
      obtain ⟨k, x', hk, rfl, HA, D, HW, HE⟩ := hrel
      by_cases hlt : k < l.length
      · have hkj : decide ((k : Int) < (l.length : Int)) = true := by simp; omega
        obtain ⟨a, rfl⟩ := HNN.out (by omega)
        have hc := fun j u h => HE.out.cell (HC0.out a rfl k hlt j u h)
        have hsu := allR_succ hlt
        have hbad := allR_bad hlt
        have htk := List.take_succ_eq_append_getElem hlt
        obtain ⟨o, ho⟩ : ∃ o, l[k] = o := ⟨_, rfl⟩
        rw [ho] at hc hsu hbad htk
        obtain ⟨dd, lane, id, n, name, seg, at', size⟩ := o
        have k0 := cell_first (hc 0 _ rfl)
        have k1 := cell_next (hc 1 _ rfl) (by decide)
        have k2 := cell_next (hc 2 _ rfl) (by decide)
        have k3 := cell_next (hc 3 _ rfl) (by decide)
        have k4 := cell_next (hc 4 _ rfl) (by decide)
        have k5 := cell_next (hc 5 _ rfl) (by decide)
        have k6 := cell_next (hc 6 _ rfl) (by decide)
        have k7 := cell_next (hc 7 _ rfl) (by decide)
        obtain ⟨Rt, hRt⟩ : ∃ R, opRight ⟨dd, lane, id, n, name, seg, at', size⟩ = R := ⟨_, rfl⟩
        have HRT := hid hRt
        rw [hRt] at hsu hbad
        have HBAD := hid hbad
        have HTK := hid htk
        have HSU := hid hsu
        have HLT := hid hlt
        obtain ⟨W1, hW1⟩ : ∃ W, wr.alloc (.cells #[.int .i64 dd, .int .i64 lane, uv id, uv n, .string (str name), uv seg, uv at', .int .i64 size] 37 (0, 0)) = W := ⟨_, rfl⟩
        have hE1 := Ext.alloc wr (.cells #[.int .i64 dd, .int .i64 lane, uv id, uv n, .string (str name), uv seg, uv at', .int .i64 size] 37 (0, 0))
        have hb1 := heap_alloc_new wr (.cells #[.int .i64 dd, .int .i64 lane, uv id, uv n, .string (str name), uv seg, uv at', .int .i64 size] 37 (0, 0))
        rw [hW1] at hE1 hb1
        obtain ⟨⟨m0, m1, m2, m3, m4, m5, m6, m7⟩, mf⟩ := blk8 hb1
        have HB1 := hid hb1
        have HX1 := hid (HE.out.trans hE1)
        have DD1 := hid (D.out.ext hE1)
        have hcb := oright_any ⟨dd, lane, id, n, name, seg, at', size⟩ W1
        rw [hRt] at hcb
        have HCB := hid hcb
        clear hc hsu hbad htk ho hRt hE1 hb1 hcb hlt HE D
        go_wp2_with fail
        try rw [hW1]
        clear hW1 k0 k1 k2 k3 k4 k5 k6 k7 m0 m1 m2 m3 m4 m5 m6 m7 mf
        refine HCB.out.mono ?_
        rintro e w8 ⟨rfl, hx⟩
        have HX8 := hid (HX1.out.trans hx)
        have DD8 := hid (DD1.out.ext hx)
        have hb8 := hx.obj HB1.out
        clear hx HCB HX1 DD1 HB1
        cases Rt with
        | false =>
          obtain ⟨rfl, rfl⟩ := Prod.mk.inj (HFF.out (HBAD.out rfl))
          have hc := eload_any 1 DD8.out HW.out (HP.out.ext15 HX8.out) (HT.out.ext HX8.out)
          rw [bW_L1, load_nil] at hc
          dsimp only at hc
          have HC := hid hc
          clear hc hb8
          go_wp2_with fail
          refine HC.out.mono ?_
          rintro e w9 ⟨⟨u, q, rfl, hu, hq⟩, hx⟩
          obtain ⟨uo2, uc2, rfl⟩ := OpsO.open hu
          obtain ⟨qo, qc, rfl⟩ := hq.shape
          have HX9 := hid (HX8.out.trans hx)
          clear hu hq hx HC
          go_wp2
          go_returns
          exact ⟨rfl, HX9.out⟩
        | true =>
          have hA : allR (l.take (k + 1)) = true := by rw [HSU.out, HA.out]; rfl
          have hob : opsB (l.take (k + 1)) = opsB (l.take k) ++ opsB [⟨dd, lane, id, n, name, seg, at', size⟩] := by rw [HTK.out, opsB_append]
          have hln := opsB_len hA
          have hsz : F.length + (opsB (l.take k)).length + (opsB [(⟨dd, lane, id, n, name, seg, at', size⟩ : Oq)]).length ≤ 65536 := by
            have h1 := congrArg List.length hob
            rw [List.length_append] at h1
            rw [List.length_take] at hln
            have := HF.out
            have := HLL.out.1
            omega
          have hone : allR [(⟨dd, lane, id, n, name, seg, at', size⟩ : Oq)] = true := by simp [allR, HRT.out]
          obtain ⟨⟨m0, m1, m2, m3, m4, m5, m6, m7⟩, mf⟩ := blk8 hb8
          obtain ⟨W9, hW9⟩ : ∃ W, w8.alloc (.cells #[.int .i64 dd, .int .i64 lane, uv id, uv n, .string (str name), uv seg, uv at', .int .i64 size] 37 (0, 0)) = W := ⟨_, rfl⟩
          have hE9 := Ext.alloc w8 (.cells #[.int .i64 dd, .int .i64 lane, uv id, uv n, .string (str name), uv seg, uv at', .int .i64 size] 37 (0, 0))
          have hb9 := heap_alloc_new w8 (.cells #[.int .i64 dd, .int .i64 lane, uv id, uv n, .string (str name), uv seg, uv at', .int .i64 size] 37 (0, 0))
          rw [hW9] at hE9 hb9
          have hops : Ops W9 (.slice (some ⟨w8.heap.size, 0, none⟩) 1 1) [⟨dd, lane, id, n, name, seg, at', size⟩] := ⟨fun _ _ => rfl, blk_sl (cs := ocells ⟨dd, lane, id, n, name, seg, at', size⟩) hb9 rfl⟩
          have HX9 := hid (HX8.out.trans hE9)
          have DD9 := hid (DD8.out.ext hE9)
          have HC := hid (do_eq (eappend_any 2 [⟨dd, lane, id, n, name, seg, at', size⟩] _ DD9.out HX9.out.size HW.out hops (by simp) (HP.out.ext15 HX9.out) (HT.out.ext HX9.out)) (bW_A2 hone hsz) 0 rfl)
          have hw := wf_evA HW.out 2 [⟨dd, lane, id, n, name, seg, at', size⟩]
          rw [bW_A2 hone hsz] at hw
          rw [← hob] at HC
          have HW9 : Hid (WF (eW 65536 F (opsB (l.take (k + 1))))) := hid (by rw [hob]; exact hw)
          have HA9 := hid hA
          clear hA hob hln hsz hone hE9 hb9 hops hw hb8 HX8 DD8
          go_wp2_with fail
          try rw [hW9]
          clear hW9 m0 m1 m2 m3 m4 m5 m6 m7 mf
          refine HC.out.mono ?_
          rintro e w10 ⟨rfl, hs⟩
          obtain ⟨x10, d10, bl, -, -, -⟩ := hs.keep
          have D10 := hid d10
          have HX10 := hid (HX9.out.below bl)
          clear hs d10 bl HC DD9 HX9
          have hwk : IntKind.i64.wrap ((k : Int) + 1) = ((k + 1 : Nat) : Int) := i64e _ (by omega) (by have := HLT.out; have := HLL.out.1; omega)
          go_wp2
          go_roundw
          case rel => exact ⟨k + 1, x10, HLT.out, by first | rfl | go_num, HA9, D10, HW9, HX10⟩
          case measure => have := HLT.out; simp [intOf]; omega
      · have hkf : decide ((k : Int) < (l.length : Int)) = false := by simp; omega
        have hkf2 : (k < l.length) = False := by simp; omega
        have htk := take_all hlt
        rw [htk] at HA D HW
        obtain ⟨rfl, rfl⟩ := Prod.mk.inj (HFT.out HA.out)
        have hc := eload_any 1 D.out HW.out (HP.out.ext15 HE.out) (HT.out.ext HE.out)
        rw [bW_L1, load_ops HA.out] at hc
        dsimp only at hc
        have HC := hid hc
        clear hc htk hlt HFF HFT
        go_wp2_with fail
        refine HC.out.mono ?_
        rintro e w8 ⟨⟨u, q, rfl, hu, hq⟩, hx⟩
        obtain ⟨uo2, uc2, rfl⟩ := OpsO.open hu
        obtain ⟨qo, qc, rfl⟩ := hq.shape
        have HU := hid (OpsO.ops hu)
        have HQ := hid hq.vec
        have HX8 := hid (HE.out.trans hx)
        have D8 := hid (D.out.ext hx)
        clear hu hq hx HC HE D
        have hc := eload_any 2 D8.out HW.out (HP.out.ext15 HX8.out) (HT.out.ext HX8.out)
        rw [bW_L2, load_ops HA.out] at hc
        dsimp only at hc
        have HC := hid hc
        clear hc
        go_wp2_with fail
        refine HC.out.mono ?_
        rintro e w9 ⟨⟨u, q, rfl, hu, hq⟩, hx⟩
        obtain ⟨uo3, uc3, rfl⟩ := OpsO.open hu
        obtain ⟨qo3, qc3, rfl⟩ := hq.shape
        have HU9 := hid (HU.out.ext hx)
        have HQ9 := hid (HQ.out.ext hx)
        have HU3 := hid (OpsO.ops hu)
        have HQ3 := hid hq.vec
        have HX9 := hid (HX8.out.trans hx)
        clear hu hq hx HC HX8 HU HQ D8
        have HLb : Hid (l.length * 72 ≤ 140737488355328) := HL
        have HC := hid (own17_any _ l w9 HU9.out HL.out)
        go_wp2_with fail
        refine HC.out.mono ?_
        rintro e w10 ⟨⟨u, rfl, ho⟩, hx⟩
        obtain ⟨oo1, oc1, rfl⟩ := OpsO.open ho
        have HX10 := hid (HX9.out.trans hx)
        have HO10 := hid (OpsO.ops ho)
        have HU10 := hid (HU3.out.ext hx)
        have HQ10 := hid (HQ9.out.ext hx)
        have HQ10b := hid (HQ3.out.ext hx)
        have HC := hid (own17_any _ l w10 (HV.out.ext HX10.out) HL.out)
        clear ho hx HX9 HU9 HU3 HQ9 HQ3
        go_wp2_with fail
        refine HC.out.mono ?_
        rintro e w11 ⟨⟨u, rfl, ho⟩, hx⟩
        obtain ⟨oo2, oc2, rfl⟩ := OpsO.open ho
        have HX11 := hid (HX10.out.trans hx)
        have HU11 := hid (HU10.out.ext hx)
        have HQ11 := hid (HQ10.out.ext hx)
        have HQ11b := hid (HQ10b.out.ext hx)
        have HC := hid (same17_any _ _ l w11 (HO10.out.ext hx) ho.ops)
        clear ho hx HX10 HO10 HU10 HQ10 HQ10b
        go_wp2_with fail
        refine HC.out.mono ?_
        rintro e w12 ⟨rfl, hx⟩
        have HX12 := hid (HX11.out.trans hx)
        have HQ12 := hid (HQ11.out.ext hx)
        have HQ12b := hid (HQ11b.out.ext hx)
        have HC := hid (own17_any _ l w12 (HU11.out.ext hx) HL.out)
        clear hx HX11 HU11 HQ11 HQ11b
        go_wp2_with fail
        refine HC.out.mono ?_
        rintro e w13 ⟨⟨u, rfl, ho⟩, hx⟩
        obtain ⟨oo3, oc3, rfl⟩ := OpsO.open ho
        have HX13 := hid (HX12.out.trans hx)
        have HO13 := hid (OpsO.ops ho)
        have HQ13 := hid (HQ12.out.ext hx)
        have HQ13b := hid (HQ12b.out.ext hx)
        have HC := hid (own17_any _ l w13 (HV.out.ext HX13.out) HL.out)
        clear ho hx HX12 HQ12 HQ12b
        go_wp2_with fail
        refine HC.out.mono ?_
        rintro e w14 ⟨⟨u, rfl, ho⟩, hx⟩
        obtain ⟨oo4, oc4, rfl⟩ := OpsO.open ho
        have HX14 := hid (HX13.out.trans hx)
        have HQ14 := hid (HQ13.out.ext hx)
        have HQ14b := hid (HQ13b.out.ext hx)
        have HC := hid (same17_any _ _ l w14 (HO13.out.ext hx) ho.ops)
        clear ho hx HX13 HO13 HQ13 HQ13b
        go_wp2_with fail
        refine HC.out.mono ?_
        rintro e w15 ⟨rfl, hx⟩
        have HX15 := hid (HX14.out.trans hx)
        have HQ15 := hid (HQ14.out.ext hx)
        have hc := ints_any _ _ (opsE 0 l) (opsE 0 l) w15 (HQ14.out.ext hx) (HQ14b.out.ext hx)
        rw [show (opsE 0 l == opsE 0 l) = true by simp] at hc
        have HC := hid hc
        clear hx HX14 HQ14 HQ14b hc
        obtain ⟨E, hE⟩ : ∃ E, opsE 0 l = E := ⟨_, rfl⟩
        have HEL : Hid (E.length = l.length) := hid (by rw [← hE, opsE_len])
        have HEA : Hid (∀ i (h : i < E.length), E[i] = (opsB (l.take (i + 1))).length) := hid (fun i h => by subst hE; rw [opsE_at]; omega)
        rw [hE] at HQ15 HC
        try rw [hE]
        clear hE
        go_wp2_with fail
        refine HC.out.mono ?_
        rintro e w16 ⟨rfl, hx⟩
        have HX16 := hid (HX15.out.trans hx)
        have HQ16 := hid (HQ15.out.ext hx)
        clear hx HC HX15 HQ15
        obtain ⟨hn16, hc16, hm16, hnn16, hcell16⟩ := HQ16.out.opens
        have HQC := hid hcell16
        have HQN := hid hnn16
        have hel : E.length = l.length := HEL.out
        rw [hel]
        rw [hel] at hc16
        clear hn16 hnn16 hcell16 HQ16 hel
        go_wp2
        go_loopw [17, 126] (fun av i wr => ∃ (k : Nat), k ≤ l.length ∧ i = .int .i64 (k : Int) ∧ av = .int .i64 (((opsB (l.take k)).length : Nat) : Int) ∧ Hid (Ext w16 wr)) (fun _ i _ => l.length - (intOf i).toNat)
        case atStart => exact ⟨0, Nat.zero_le _, rfl, rfl, hid (Ext.refl _)⟩
        case round =>
          clear hkf hkf2
          obtain ⟨k, hk, rfl, rfl, HE⟩ := hrel
          by_cases hlt : k < l.length
          · have hkj : decide ((k : Int) < (l.length : Int)) = true := by simp; omega
            have hkj2 : (k : Int) < (l.length : Int) := by omega
            obtain ⟨a, rfl⟩ := HNN.out (by omega)
            obtain ⟨b, rfl⟩ := HQN.out (by have := HEL.out; omega)
            have hc := fun j u h => (HX16.out.trans HE.out).cell (HC0.out a rfl k hlt j u h)
            have hqc := HE.out.cell (HQC.out b rfl k (by rw [HEL.out]; exact hlt))
            have hea := HEA.out k (by rw [HEL.out]; exact hlt)
            have hra : opRight l[k] = true := List.all_eq_true.1 HA.out _ (List.getElem_mem hlt)
            have htk := List.take_succ_eq_append_getElem hlt
            rw [hea] at hqc
            obtain ⟨o, ho⟩ : ∃ o, l[k] = o := ⟨_, rfl⟩
            rw [ho] at hc hra htk
            obtain ⟨dd, lane, id, n, name, seg, at', size⟩ := o
            have k0 := cell_first (hc 0 _ rfl)
            have k1 := cell_next (hc 1 _ rfl) (by decide)
            have k2 := cell_next (hc 2 _ rfl) (by decide)
            have k3 := cell_next (hc 3 _ rfl) (by decide)
            have k4 := cell_next (hc 4 _ rfl) (by decide)
            have k5 := cell_next (hc 5 _ rfl) (by decide)
            have k6 := cell_next (hc 6 _ rfl) (by decide)
            have k7 := cell_next (hc 7 _ rfl) (by decide)
            have hob : (opsB (l.take (k + 1))).length = (opsB (l.take k)).length + (opB ⟨dd, lane, id, n, name, seg, at', size⟩).length := by rw [htk, opsB_snoc, List.length_append]
            have hln := opsB_len (allR_take HA.out (k + 1))
            rw [List.length_take] at hln
            obtain ⟨P0, hP0⟩ : ∃ P, (opsB (l.take k)).length = P := ⟨_, rfl⟩
            obtain ⟨P1, hP1⟩ : ∃ P, (opsB (l.take (k + 1))).length = P := ⟨_, rfl⟩
            obtain ⟨PO, hPO⟩ : ∃ P, (opB ⟨dd, lane, id, n, name, seg, at', size⟩).length = P := ⟨_, rfl⟩
            rw [hP0, hP1, hPO] at hob
            rw [hP1] at hqc hln
            rw [hP0]
            have HP1 := hid hP1
            have HPO := hid hPO
            have hwp : IntKind.i64.wrap ((P0 : Int) + (PO : Int)) = (P1 : Int) := i64e _ (by omega) (by have := HLL.out.1; omega)
            have HLT := hid hlt
            have hrv : recV ⟨dd, lane, id, n, name, seg, at', size⟩ = (opRec ⟨dd, lane, id, n, name, seg, at', size⟩, 0) := by unfold recV; rw [hra]; rfl
            have hrb := (rec_back hra).1
            have hpo2 : (recB (opRec ⟨dd, lane, id, n, name, seg, at', size⟩)).length = PO := hPO
            obtain ⟨Z, hZ⟩ : ∃ Z, opRec ⟨dd, lane, id, n, name, seg, at', size⟩ = Z := ⟨_, rfl⟩
            rw [hZ] at hrv hrb hpo2
            obtain ⟨zk, zn, zt⟩ := Z
            have HRB := hid hrb
            have HPO2 := hid hpo2
            obtain ⟨W1, hW1⟩ : ∃ W, wr.alloc (.cells #[.int .i64 dd, .int .i64 lane, uv id, uv n, .string (str name), uv seg, uv at', .int .i64 size] 37 (0, 0)) = W := ⟨_, rfl⟩
            have hE1 := Ext.alloc wr (.cells #[.int .i64 dd, .int .i64 lane, uv id, uv n, .string (str name), uv seg, uv at', .int .i64 size] 37 (0, 0))
            have hb1 := heap_alloc_new wr (.cells #[.int .i64 dd, .int .i64 lane, uv id, uv n, .string (str name), uv seg, uv at', .int .i64 size] 37 (0, 0))
            rw [hW1] at hE1 hb1
            obtain ⟨⟨m0, m1, m2, m3, m4, m5, m6, m7⟩, mf⟩ := blk8 hb1
            have HX1 := hid (HE.out.trans hE1)
            have HQC1 := hid (hE1.cell hqc)
            have hcb := orec_any ⟨dd, lane, id, n, name, seg, at', size⟩ W1
            rw [hrv] at hcb
            have HCB := hid hcb
            clear hrb hpo2 hZ hc hea hra htk ho hob hln hP0 hP1 hPO hrv hE1 hb1 hcb hlt hqc HE
            go_wp2_with fail
            try rw [hW1]
            clear hW1 k0 k1 k2 k3 k4 k5 k6 k7 m0 m1 m2 m3 m4 m5 m6 m7 mf
            refine HCB.out.mono ?_
            rintro e w17 ⟨u, rfl, hu, hx⟩
            dsimp only at hu ⊢
            obtain ⟨ro, rc, rfl⟩ := hu.shape
            obtain ⟨rn, hrn⟩ : ∃ q, zn.length = q := ⟨_, rfl⟩
            have HX17 := hid (HX1.out.trans hx)
            have HQC17 := hid (hx.cell HQC1.out)
            have hE18 := Ext.alloc w17 (.cells #[.int .i64 zk, .slice ro rn rc, .string (str zt)] 46 (0, 0))
            have hb18 := heap_alloc_new w17 (.cells #[.int .i64 zk, .slice ro rn rc, .string (str zt)] 46 (0, 0))
            obtain ⟨W18, hW18⟩ : ∃ W, w17.alloc (.cells #[.int .i64 zk, .slice ro rn rc, .string (str zt)] 46 (0, 0)) = W := ⟨_, rfl⟩
            rw [hW18] at hE18 hb18
            obtain ⟨r0', r1', r2'⟩ := blk3 hb18
            have hcb := bytes5_any ⟨zk, zn, zt⟩ (.slice ro zn.length rc) W18 (hu.vec.ext hE18) (HT.out.ext (HX16.out.trans (HX17.out.trans hE18)))
            rw [recBytes_ok HRB.out] at hcb
            rw [hrn] at hcb ⊢
            have HCB := hid hcb
            have HX18 := hid (HX17.out.trans hE18)
            have HQC18 := hid (hE18.cell HQC17.out)
            clear hu hx hrn hE18 hb18 hcb HX1 HQC1 HX17 HQC17
            go_wp2_with fail
            try rw [hW18]
            clear hW18 r0' r1' r2'
            refine HCB.out.mono ?_
            rintro e w19 ⟨y, rfl, hy, hx⟩
            dsimp only at hy ⊢
            obtain ⟨yo, yc, rfl⟩ := row_shape hy
            have hpo : (fbytes (recFr ⟨zk, zn, zt⟩)).length = PO := HPO2.out
            rw [hpo]
            have HX19 := hid (HX18.out.trans hx)
            have hqc := hx.cell HQC18.out
            have hne : ((P1 : Int) != (P1 : Int)) = false := by simp
            have hwk : IntKind.i64.wrap ((k : Int) + 1) = ((k + 1 : Nat) : Int) := i64e _ (by omega) (by have := HLT.out; have := HLL.out.1; omega)
            clear hy hx hpo HCB HX18 HQC18
            go_wp2
            go_roundw
            case rel => exact ⟨k + 1, HLT.out, by first | rfl | go_num, by rw [HP1.out], HX19⟩
            case measure => have := HLT.out; simp [intOf]; omega
          · have hkf : decide ((k : Int) < (l.length : Int)) = false := by simp; omega
            have hkf2 : (k < l.length) = False := by simp; omega
            have HXF := hid (HX16.out.trans HE.out)
            go_wp2
            go_returns
            exact ⟨rfl, HXF.out⟩
end Go.Proofs.YtinancnlangkjaaDoor

namespace Go.Proofs.YtinancnlangkjaaDoor.eventsOnce
open Go.ChangeShapes Go.WideShapes Go.ChangeAt Go.RowKit
open Go.ChangeMaps (open_string shut_string)
set_option linter.unusedVariables false
set_option maxRecDepth 100000

theorem own : ownKnob Tryd.prog.godebug = none := by kernel_rfl
theorem kid1 : laidOutB Tryd.prog = true := by kernel_rfl
theorem kid2 : mapsRowed Tryd.prog = true := by kernel_rfl
theorem kid3 : ((List.range Tryd.prog.types.size).all fun t => match Tryd.prog.underlying t with | some (.slice e) => decide (0 < Tryd.prog.cellsOf e) | _ => true) = true := by kernel_rfl
theorem kid4 : ∀ t ∈ Tryd.f3.params.toList, t < Tryd.prog.types.size := by decide +kernel
theorem gTab : Tryd.prog.globalNamed "internal/strconv.uint64pow10" = some 2 := by kernel_rfl
theorem gTabType : (Tryd.prog.globals[2]?).map (·.type) = some 130 := by kernel_rfl
theorem cellsT : Tryd.prog.cellsOf 130 = 20 := by kernel_rfl
theorem cellsE : Tryd.prog.cellsOf 32 = 1 := by kernel_rfl
theorem powIs : (Rows.laid_internal_strconv_uint64pow10 : DataW Unit) = Lib.tabData .u64 Lib.pow10Tab := by kernel_rfl
theorem table {W : World} (h : laidMetH Tryd.prog Rows.eventsOnceRow.laid W) : Pw W := by
  have h' : laidMet Tryd.prog Rows.eventsOnceRow.laid W := h
  have hr := Lib.laidMet.reads h' (n := "internal/strconv.uint64pow10") (d := Rows.laid_internal_strconv_uint64pow10) (.tail _ (.tail _ (.head _)))
  rw [powIs] at hr
  obtain ⟨g', t', cs, fuel, p, hg', ht', hvar, hd⟩ := hr
  obtain rfl := Option.some.inj (gTab.symm.trans hg')
  obtain rfl := Option.some.inj (gTabType.symm.trans ht')
  show Lib.TabIs _ _ _ _ _
  unfold Lib.TabIs
  rw [hvar, ← Lib.cells_of_tab Tryd.underlying130 Tryd.underlying32 cellsE cellsT hd]
theorem gTab2 : Tryd.prog.globalNamed "tumbrel/record.numbers" = some 0 := by kernel_rfl
theorem gTabType2 : (Tryd.prog.globals[0]?).map (·.type) = some 110 := by kernel_rfl
theorem cellsT2 : Tryd.prog.cellsOf 110 = 18 := by kernel_rfl
theorem cellsE2 : Tryd.prog.cellsOf 3 = 1 := by kernel_rfl
theorem numIs : (Rows.laid_tumbrel_record_numbers : DataW Unit) = Lib.tabData .i64 tabZ := by kernel_rfl
theorem table2 {W : World} (h : laidMetH Tryd.prog Rows.eventsOnceRow.laid W) : Tab W := by
  have h' : laidMet Tryd.prog Rows.eventsOnceRow.laid W := h
  have hr := Lib.laidMet.reads h' (n := "tumbrel/record.numbers") (d := Rows.laid_tumbrel_record_numbers) (.tail _ (.tail _ (.tail _ (.head _))))
  rw [numIs] at hr
  obtain ⟨g', t', cs, fuel, p, hg', ht', hvar, hd⟩ := hr
  obtain rfl := Option.some.inj (gTab2.symm.trans hg')
  obtain rfl := Option.some.inj (gTabType2.symm.trans ht')
  have ht : Lib.TabIs Tryd.prog W "tumbrel/record.numbers" .i64 tabZ := by
    unfold Lib.TabIs
    rw [hvar, ← Lib.cells_of_tab Tryd.underlying110 Tryd.underlying3 cellsE2 cellsT2 hd]
  intro i hi
  rw [← tabZ_at ⟨i, hi⟩]
  exact ht.cell gTab2 i hi

set_option maxRecDepth 100000 in
theorem contract (H : Type) (enc : TypeId × Value → H) (W : World) (base : Nat) (args : Array Value) (ds gs : List (DataW H)) (before : List MemPlace)
    (hval : ∀ (j : Nat) t v, Tryd.f3.params[j]? = some t → args[j]? = some v → Value.okWide Tryd.prog W .any base t v)
    (hW : DataW.Whole enc Tryd.prog Tryd.f3.params.toList Rows.eventsOnceSpec.vars false W args.toList ds gs before) (hL : laidMetH Tryd.prog Rows.eventsOnceRow.laid W)
    (hz : (DataW.weightsEach Tryd.prog (Tryd.f3.params.toList ++ (OpenSpec.ofChange Rows.eventsOnceSpec).bare.plain.varTypes Tryd.prog) (ds ++ gs)).all (· ≤ reachBytes) = true) :
    Calls Tryd.prog 3 args W fun e W' => ∃ v, e = .returned v ∧ Rows.eventsOnceSpec.post enc Tryd.prog Tryd.f3 false true false false W args v W' := by
  have hW' := hW
  obtain ⟨p, q, hA0, hV, rfl, hfz, hnd⟩ := hW
  have hA : DataW.TrodAll enc Tryd.prog W 0 (fun _ => true) true Tryd.f3.params.toList args.toList ds p := hA0
  rw [Tryd.params3] at hA hval
  obtain ⟨v0, vs0, d0, ds0, p0, q0, hargs, rfl, rfl, h0, r0⟩ := trodAll_cons hA
  obtain ⟨rfl, rfl, rfl⟩ := trodAll_nil r0
  obtain rfl : args = #[v0] := by cases args; simp_all
  obtain ⟨rfl, rfl⟩ := trodVars_none hV
  obtain ⟨m0, hm0, hs0⟩ := open_opsQ (hval 0 22 v0 rfl rfl) h0
  refine (eventsOnce_law v0 m0 W hm0 (ops_small hz (j := 0) rfl rfl hs0) (table hL) (table2 hL)).mono fun e W' ⟨he, hg⟩ => ?_
  subst he
  exact ⟨_, rfl, Go.Tum.law_post kid1 kid2 kid3 kid4 rfl Tryd.underlying4 hW' rfl rfl hg⟩

def litC (d : DataW Unit) : Array Value := match d with
  | .agg ds => (ds.map fun x => match x with
    | .lit (.int k n) => Value.int k n
    | _ => .tuple #[]).toArray
  | _ => #[]
/-- A world for the witness: the settled one, the tables laid. -/
noncomputable def laidWorld (os : Os) : World :=
  let w0 := World.holding Tryd.prog os ⟨#[], #[], []⟩
  let put (h : Array Obj) (g : Nat) (cs : Array Value) : Array Obj := h.modify g fun
    | .cells _ t frozen => .cells cs t frozen
    | o => o
  { w0 with heap := put (put (put (put w0.heap 0 (litC Rows.laid_tumbrel_record_numbers)) 2 (litC Rows.laid_internal_strconv_uint64pow10)) 3 (litC Rows.laid_math_bits_deBruijn32tab)) 4 (litC Rows.laid_math_bits_deBruijn64tab) }
theorem laid_met (os : Os) : laidMet Tryd.prog Rows.eventsOnceRow.laid ((laidWorld os).forCall (fun _ _ => 0) ⟨#[], #[.slice none 0 0], []⟩).memory :=
  laidMet_of_run3 10 (by kernel_rfl) (by kernel_rfl) (by kernel_rfl)
theorem reads (os : Os) {H : Type} (enc : TypeId × Value → H) : ∃ places, DataW.whole enc Tryd.prog ((laidWorld os).forCall (fun _ _ => 0) ⟨#[], #[.slice none 0 0], []⟩).memory Tryd.f3.params.toList Rows.eventsOnceSpec.vars false #[Value.slice none 0 0].toList 8 = some ([.nil], [], places) :=
  ⟨[], by kernel_rfl⟩

set_option maxRecDepth 100000 in
theorem lifted (os : Os) (started : os.Started) (H : Type) (enc : TypeId × Value → H) (F : Stop.Interp) :
    ReturnsInHanded {} Tryd.checked os 3 .any ((OpenSpec.ofChange Rows.eventsOnceSpec).preRow enc Tryd.prog Tryd.f3 Rows.eventsOnceRow.domain false Rows.eventsOnceRow.laid) (((OpenSpec.ofChange Rows.eventsOnceSpec).at F).post enc Tryd.prog Tryd.f3 false true false false) := by
  obtain ⟨places, hx⟩ := reads os enc
  refine returnsInHanded_of_row (C := Tryd.checked) (s := OpenSpec.ofChange Rows.eventsOnceSpec) own started (by kernel_rfl) Tryd.func3
    (witness_row_at (enc := enc) (C := Tryd.checked) false (laidWorld os) #[.slice none 0 0] rfl (by kernel_rfl) (by kernel_rfl) (by kernel_rfl)
      (OpenSpec.preRow_of_cond 8 hx (by kernel_rfl) (fun k hk => by cases hk) (by kernel_rfl) (laid_met os))) ?_
  intro W base args ds gs before hval hW _ _ hz hL _ _
  exact contract H enc W base args ds gs before hval hW hL hz

theorem said : Rows.EventsOnceSaid :=
  OpenClaim.holds_of_cond 3 Tryd.f3 rfl rfl rfl rfl rfl rfl rfl ⟨rfl, rfl, rfl, rfl, rfl⟩ rfl rfl rfl rfl rfl (by kernel_rfl) Tryd.func3 (by kernel_rfl)
    (of_decide_eq_true (by kernel_rfl)) (by unfold Func.isWrapper; first | (rw [if_pos (by decide +kernel)]; kernel_rfl) | (rw [if_neg (by decide +kernel)]; exact ⟨rfl, rfl⟩))
    (fun os started H enc _ F => by rw [OpenClaim.pre_eq_preRow]; exact lifted os started H enc F)

theorem plain (f : FuncId) (fn : Func) (hf : Tryd.pinned.checked.prog.funcNamed "tumbrel/tumbrellaw17.EventsOnce" = some f) (hfn : Tryd.pinned.checked.prog.funcs[f]? = some fn) :
    false = Tryd.pinned.checked.prog.looks [] ∧ ∀ (j : Nat) t, fn.params[j]? = some t → Tryd.pinned.checked.prog.wantsStandIn t = false := by
  obtain rfl : f = 3 := Option.some.inj ((show Tryd.prog.funcNamed "tumbrel/tumbrellaw17.EventsOnce" = some 3 by kernel_rfl).symm.trans hf) |>.symm
  obtain rfl : fn = Tryd.f3 := (Option.some.inj (Tryd.func3.symm.trans hfn)).symm
  refine ⟨by kernel_rfl, fun j t ht => ?_⟩
  rw [Tryd.params3] at ht
  have hm := Array.mem_of_getElem? ht
  have hall : ∀ t ∈ Tryd.f3.params.toList, Tryd.prog.wantsStandIn t = false := by decide +kernel
  rw [Tryd.params3] at hall
  exact hall t (by simpa using hm)

theorem proved : Rows.EventsOnceCardSaid :=
  Claim7.holds_tied_plain_at .later [] _ _ _ _ said (fun _ h => by cases h) (by kernel_rfl) (fun _ h => by cases h) eventsOnce_row_tie rfl ⟨rfl, rfl⟩ (by kernel_rfl) rfl plain (by kernel_rfl)
end Go.Proofs.YtinancnlangkjaaDoor.eventsOnce

