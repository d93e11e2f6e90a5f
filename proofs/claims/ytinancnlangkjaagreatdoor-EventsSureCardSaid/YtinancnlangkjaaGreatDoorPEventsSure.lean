/- For every input the law EventsSure returns true and leaves what was there as it was; and its card.
EventsSure. -/
import Derived.Test.YtinancnlangkjaaGreatDoorEvMB
import Derived.Test.YtinancnlangkjaaGreatDoorCards
import Derived.Test.YtinancnlangkjaaGreatDoorTie
import Derived.WalkKit
import Derived.ProofKit
import Derived.OpenShut
import Derived.Below
import Derived.Deep.DeepHandedRow
import Derived.SizedLaws
import Derived.Lib.LaidTab
import Derived.Lib.LaidU8
import Derived.Deep.DeepLaidRun
import Derived.ShutString
import Derived.Test.YtinancnlangkjaaGreatDoorFrame
import Derived.Lib.SmallJoins
set_option linter.unusedSimpArgs false
set_option linter.unusedVariables false
set_option maxRecDepth 100000
namespace Go.Proofs.YtinancnlangkjaaGreatDoor
open Go Go.RowKit Go.Tum Go.ChangeMaps Go.Tum.Crc Go.Tum.Vint Go.Tum.Opm Go.Nam

set_option maxHeartbeats 8000000 in
theorem eventsSure_law (gen : UInt64) (va vb vc tv : Value) (a b c : List Oq) (ts : List Int) (w : World) (ha : Ops w va a) (hb : Ops w vb b) (hc : Ops w vc c) (la : a.length * 72 ≤ 140737488355328) (lb : b.length * 72 ≤ 140737488355328) (lc : c.length * 72 ≤ 140737488355328)
    (htv : Vec Go.Tum.iv w tv ts) (htr : ∀ t ∈ ts, -9223372036854775808 ≤ t ∧ t ≤ 9223372036854775807) (hp : Pw w) (ht : Tab w) :
    Calls Tryz.prog 4 #[uv gen, va, vb, vc, tv] w fun e w' => e = .returned (.bool true) ∧ Ext w w' := by
  have HA := hid ha
  have HB := hid hb
  have HCc := hid hc
  have HP := hid hp
  have HT := hid ht
  have HLa := hid la
  have HLb := hid lb
  have HLc := hid lc
  have HTV := hid htv
  have HTR := hid htr
  obtain ⟨ao, ac, rfl, hale, -, -, -⟩ := ha.open
  obtain ⟨bo, bc, rfl, hble, hbm, hbnn, hbcell⟩ := hb.open
  obtain ⟨co, cc, rfl, hcle, -, -, -⟩ := hc.open
  obtain ⟨to, tc, rfl, -⟩ := htv.open
  have HBC := hid hbcell
  have HBN := hid hbnn
  have HCA := hid (awake17_any w ht hp)
  clear ha hb hc la lb lc htv htr hp ht hbnn hbcell
  obtain ⟨na, hna⟩ : ∃ n, a.length = n := ⟨_, rfl⟩
  obtain ⟨nb, hnb⟩ : ∃ n, b.length = n := ⟨_, rfl⟩
  obtain ⟨nc, hnc⟩ : ∃ n, c.length = n := ⟨_, rfl⟩
  obtain ⟨nt, hnt⟩ : ∃ n, ts.length = n := ⟨_, rfl⟩
  rw [hna] at HA hale
  rw [hnb] at HB hble
  rw [hnc] at HCc hcle
  rw [hnt] at HTV
  rw [hna, hnb, hnc, hnt]
  have HNA := hid hna
  have HNB := hid hnb
  have HNC := hid hnc
  have HNT := hid hnt
  clear hna hnb hnc hnt
  go_enter Tryz.func4, Tryz.ntmps4
  go_wp2_with fail
  refine HCA.out.mono ?_
  rintro e w1 ⟨rfl, hx⟩
  have HE1 := hid hx
  have HC := hid (dnew_any w1 w.heap.size hx.size 65536)
  clear hx HCA
  go_wp2_with fail
  refine HC.out.mono ?_
  rintro e w2 ⟨-, h⟩
  obtain ⟨p, x, rfl, d2, hx, -⟩ := h (by decide) (by decide)
  have D2 : Hid (Dk w.heap.size w2 p x (newP 65536)) := hid d2
  have HE2 := hid (HE1.out.trans hx)
  have HW2 : Hid (WF (newP 65536)) := hid (wf_new (by decide))
  clear h d2 hx HC HE1
  by_cases hg : 1000 < gen.toNat
  · have hd : decide ((1000 : Int) < (gen.toNat : Int)) = true := by simp; omega
    clear hg
    go_wp2
    go_returns
    exact ⟨rfl, HE2.out⟩
  have hd : decide ((1000 : Int) < (gen.toNat : Int)) = false := by simp; omega
  have hdp : (1000 < gen.toNat) = False := by simp; omega
  have HG : Hid (gen.toNat < 10000000000) := hid (by omega)
  clear hg
  by_cases hg : 300 < nt
  · have hd2 : decide ((300 : Int) < (nt : Int)) = true := by simp; omega
    clear hg
    go_wp2
    go_returns
    exact ⟨rfl, HE2.out⟩
  have hd2 : decide ((300 : Int) < (nt : Int)) = false := by simp; omega
  have hd2p : (300 < nt) = False := by simp; omega
  clear hg
  have HC := hid (own17_any _ a w2 (HA.out.ext HE2.out) HLa.out)
  go_wp2_with fail
  clear hd hdp hd2 hd2p
  refine HC.out.mono ?_
  rintro e w3 ⟨⟨u, rfl, ho⟩, hx⟩
  obtain ⟨uo, uc, rfl⟩ := OpsO.open ho
  have HE3 := hid (HE2.out.trans hx)
  have D3 := hid (D2.out.ext hx)
  have HC := hid (rlarge12_any _ a w3 ho.ops)
  clear hx ho HE2 D2
  go_wp2_with fail
  refine HC.out.mono ?_
  rintro e w4 ⟨⟨r, rfl, hr⟩, hx⟩
  have HE4 := hid (HE3.out.trans hx)
  have D4 := hid (D3.out.ext hx)
  clear hx HC HE3 D3
  cases r
  case true =>
    clear hr
    go_wp2
    go_returns
    exact ⟨rfl, HE4.out⟩
  have HLa := hid (hr rfl).1
  clear hr
  have HC := hid (own17_any _ b w4 (HB.out.ext HE4.out) HLb.out)
  go_wp2_with fail
  refine HC.out.mono ?_
  rintro e w5 ⟨⟨u, rfl, ho⟩, hx⟩
  obtain ⟨uo, uc, rfl⟩ := OpsO.open ho
  have HE5 := hid (HE4.out.trans hx)
  have D5 := hid (D4.out.ext hx)
  have HC := hid (rlarge12_any _ b w5 ho.ops)
  clear hx ho HE4 D4
  go_wp2_with fail
  refine HC.out.mono ?_
  rintro e w6 ⟨⟨r, rfl, hr⟩, hx⟩
  have HE6 := hid (HE5.out.trans hx)
  have D6 := hid (D5.out.ext hx)
  clear hx HC HE5 D5
  cases r
  case true =>
    clear hr
    go_wp2
    go_returns
    exact ⟨rfl, HE6.out⟩
  have HLb := hid (hr rfl).1
  clear hr
  have HC := hid (own17_any _ c w6 (HCc.out.ext HE6.out) HLc.out)
  go_wp2_with fail
  refine HC.out.mono ?_
  rintro e w7 ⟨⟨u, rfl, ho⟩, hx⟩
  obtain ⟨uo, uc, rfl⟩ := OpsO.open ho
  have HE7 := hid (HE6.out.trans hx)
  have D7 := hid (D6.out.ext hx)
  have HC := hid (rlarge12_any _ c w7 ho.ops)
  clear hx ho HE6 D6
  go_wp2_with fail
  refine HC.out.mono ?_
  rintro e w8 ⟨⟨r, rfl, hr⟩, hx⟩
  have HE8 := hid (HE7.out.trans hx)
  have D8 := hid (D7.out.ext hx)
  clear hx HC HE7 D7
  cases r
  case true =>
    clear hr
    go_wp2
    go_returns
    exact ⟨rfl, HE8.out⟩
  have HLc := hid (hr rfl).1
  clear hr
  have HNS : Hid (na ≤ 20 ∧ nb ≤ 20 ∧ nc ≤ 20) := hid ⟨by rw [← HNA.out]; exact HLa.out, by rw [← HNB.out]; exact HLb.out, by rw [← HNC.out]; exact HLc.out⟩
  obtain ⟨N2, hN2⟩ : ∃ n, na + nb = n := ⟨_, rfl⟩
  obtain ⟨N3, hN3⟩ : ∃ n, N2 + nc = n := ⟨_, rfl⟩
  have HN2 := hid hN2
  have HN3 := hid hN3
  have H0 := hid (opsO_lit0 w8 w8.heap.size 68 (Nat.le_refl _))
  have HX9 := hid (Ext.alloc w8 (.cells #[] 68))
  clear hN2 hN3
  go_wp2_with (first
    | (at_builtin; refine wpList_append_ops rfl (.tmp 57) (.tmp 58) 33 rfl w8.heap.size 68 Tryz.underlying33 infoOp rfl H0.out rfl (HA.out.ext (HE8.out.trans HX9.out)) na (by rw [List.length_nil, Nat.zero_add]; exact HNA.out.symm) (by have := HNS.out; omega) HX9.out.size ?_; intro ao9 cap9 w9 ho9 hb9 hc9; obtain ⟨HO9, HXB9⟩ := And.intro (hid ho9) (hid (HX9.out.below hb9)); clear ho9 hb9 hc9)
    | (at_builtin; refine wpList_append_ops rfl (.tmp 59) (.tmp 60) 33 rfl w8.heap.size 68 Tryz.underlying33 infoOp rfl HO9.out rfl (HB.out.ext (HE8.out.trans HXB9.out)) N2 (by rw [List.nil_append, HNA.out, HNB.out]; exact HN2.out.symm) (by have := HNS.out; have := HN2.out; omega) HXB9.out.size ?_; intro ao10 cap10 w10 ho10 hb10 hc10; obtain ⟨HO10, HXB10⟩ := And.intro (hid ho10) (hid (HXB9.out.below hb10)); clear ho10 hb10 hc10)
    | (at_builtin; refine wpList_append_ops rfl (.tmp 61) (.tmp 62) 33 rfl w8.heap.size 68 Tryz.underlying33 infoOp rfl HO10.out rfl (HCc.out.ext (HE8.out.trans HXB10.out)) N3 (by rw [List.nil_append, List.length_append, HNA.out, HNB.out, HNC.out, HN2.out]; exact HN3.out.symm) (by have := HNS.out; have := HN2.out; have := HN3.out; omega) HXB10.out.size ?_; intro ao11 cap11 w11 ho11 hb11 hc11; obtain ⟨HO11, HXB11⟩ := And.intro (hid ho11) (hid (HXB10.out.below hb11)); clear ho11 hb11 hc11))
  have HE11 := hid (HE8.out.trans HXB11.out)
  have D11 := hid (D8.out.ext HXB11.out)
  have HXS : Hid (Ops w11 (.slice ao11 N3 cap11) (a ++ b ++ c)) := hid (by have := OpsO.ops HO11.out; simpa using this)
  have HXL : Hid ((a ++ b ++ c).length = N3) := hid (by rw [List.length_append, List.length_append, HNA.out, HNB.out, HNC.out, HN2.out, HN3.out])
  obtain ⟨hxn, hxle, hxm, hxnn, hxcell⟩ := HXS.out.opens
  have HXC := hid hxcell
  have HXN := hid hxnn
  obtain ⟨XS, hXS⟩ : ∃ l, a ++ b ++ c = l := ⟨_, rfl⟩
  rw [hXS] at HXC HXL
  have HXE := hid hXS
  clear hxn hxnn hxcell HO9 HO10 HO11 HXB9 HXB10 HXB11 H0 HX9 HE8 D8 HXS hXS
  go_loopw [65] (fun i wr => ∃ (k : Nat), k ≤ N3 ∧ i = .int .i64 (k : Int) ∧ Hid (allR (XS.take k) = true) ∧ Hid (Ext w11 wr)) (fun i _ => N3 - (intOf i).toNat)
  case atStart => exact ⟨0, Nat.zero_le _, rfl, hid rfl, hid (Ext.refl _)⟩
  case round =>
    obtain ⟨k, hk, rfl, HAk, HE⟩ := hrel
    by_cases hlt : k < N3
    · have hkj : decide ((k : Int) < (N3 : Int)) = true := by simp; omega
      have hkj2 : (k : Int) < (N3 : Int) := by omega
      obtain ⟨g, rfl⟩ := HXN.out (by omega)
      have hltX : k < XS.length := by rw [HXL.out]; exact hlt
      have hc := fun j u h => HE.out.cell (HXC.out g rfl k hltX j u h)
      have HEQS := allR_succ hltX
      obtain ⟨o, ho⟩ : ∃ o, XS[k] = o := ⟨_, rfl⟩
      rw [ho] at hc HEQS
      obtain ⟨dd, lane, id, n, name, seg, at', size⟩ := o
      have k0 := cell_first (hc 0 _ rfl)
      have k1 := cell_next (hc 1 _ rfl) (by decide)
      have k2 := cell_next (hc 2 _ rfl) (by decide)
      have k3 := cell_next (hc 3 _ rfl) (by decide)
      have k4 := cell_next (hc 4 _ rfl) (by decide)
      have k5 := cell_next (hc 5 _ rfl) (by decide)
      have k6 := cell_next (hc 6 _ rfl) (by decide)
      have k7 := cell_next (hc 7 _ rfl) (by decide)
      obtain ⟨W1, hW1⟩ : ∃ W, wr.alloc (.cells #[.int .i64 dd, .int .i64 lane, uv id, uv n, .string (str name), uv seg, uv at', .int .i64 size] 68 (0, 0)) = W := ⟨_, rfl⟩
      have hE1 := Ext.alloc wr (.cells #[.int .i64 dd, .int .i64 lane, uv id, uv n, .string (str name), uv seg, uv at', .int .i64 size] 68 (0, 0))
      have hb1 := heap_alloc_new wr (.cells #[.int .i64 dd, .int .i64 lane, uv id, uv n, .string (str name), uv seg, uv at', .int .i64 size] 68 (0, 0))
      rw [hW1] at hE1 hb1
      obtain ⟨⟨m0, m1, m2, m3, m4, m5, m6, m7⟩, mf⟩ := blk8 hb1

      obtain ⟨Rt, hRt⟩ : ∃ R, opRight ⟨dd, lane, id, n, name, seg, at', size⟩ = R := ⟨_, rfl⟩
      rw [hRt] at HEQS
      have HSU := hid HEQS
      have HLT := hid hlt
      have HX1 := hid (HE.out.trans hE1)
      have hcb := oright_any ⟨dd, lane, id, n, name, seg, at', size⟩ W1
      rw [hRt] at hcb
      have HCB := hid hcb
      clear hc HEQS ho hRt hE1 hb1 hcb hlt hltX HE
      go_wp2_with fail
      try rw [hW1]
      clear hW1 k0 k1 k2 k3 k4 k5 k6 k7 m0 m1 m2 m3 m4 m5 m6 m7 mf
      refine HCB.out.mono ?_
      rintro e w12 ⟨rfl, hx⟩
      have HX12 := hid (HX1.out.trans hx)
      clear hx HCB HX1
      cases Rt
      case false =>
        go_wp2
        go_returns
        exact ⟨rfl, HE11.out.trans HX12.out⟩
      have hA : allR (XS.take (k + 1)) = true := by rw [HSU.out, HAk.out]; rfl
      have HA9 := hid hA
      have hwk : IntKind.i64.wrap ((k : Int) + 1) = ((k + 1 : Nat) : Int) := i64e _ (by omega) (by have := HLT.out; have := HNS.out; have := HN2.out; have := HN3.out; omega)
      clear hA
      go_wp2
      go_roundw
      case rel => exact ⟨k + 1, HLT.out, by first | rfl | go_num, HA9, HX12⟩
      case measure => have := HLT.out; simp [intOf]; omega
    have hkf : decide ((k : Int) < (N3 : Int)) = false := by simp; omega
    have hkf2 : (k < N3) = False := by simp; omega
    have hall : allR XS = true := by have h := HAk.out; rw [List.take_of_length_le (by rw [HXL.out]; omega)] at h; exact h
    rw [← HXE.out] at hall
    rw [allR_append, Bool.and_eq_true, allR_append, Bool.and_eq_true] at hall
    have HRA := hid hall.1.1
    have HRB := hid hall.1.2
    have HRC := hid hall.2
    have HRAB : Hid (allR (a ++ b) = true) := hid (by rw [allR_append, hall.1.1, hall.1.2]; rfl)
    have HE12 := hid (HE11.out.trans HE.out)
    have D12 := hid (D11.out.ext HE.out)
    have HSZ : Hid ((opsB a).length ≤ 8220 ∧ (opsB b).length ≤ 8220 ∧ (opsB c).length ≤ 8220) := hid (by
      have h1 := opsB_len hall.1.1
      have h2 := opsB_len hall.1.2
      have h3 := opsB_len hall.2
      have := HLa.out; have := HLb.out; have := HLc.out
      omega)
    clear hall hk hlt HXN HXC HXL HXE HE11 D11 HAk
    have HC := hid (do_eq (ebegin_any gen D12.out HE12.out.size HW2.out (by simp [newP]) (HP.out.ext15 HE12.out)) (bU_B HG.out) 0 rfl)
    have hw := wf_evB HW2.out gen
    rw [bU_B HG.out] at hw
    have HW3 := hid hw
    clear hw
    go_wp2_with fail
    clear hkf hkf2
    refine HC.out.mono ?_
    rintro e w13 ⟨rfl, hs⟩
    obtain ⟨x13, d13, bl, -, -, -⟩ := hs.keep
    have D13 := hid d13
    have HE13 := hid (HE12.out.below bl)
    clear hs d13 bl HC D12 HE12 HW2
    have HC := hid (do_eq (ddsync_any D13.out HE13.out.size HW3.out.dsy.gd) (eU_dsy _ _ _ _) 0 rfl)
    have hw := HW3.out.dsy
    rw [eU_dsy] at hw
    have HW4 := hid hw
    clear hw
    go_wp2_with fail
    refine HC.out.mono ?_
    rintro e w14 ⟨rfl, hs⟩
    obtain ⟨x14, d14, bl, -, -, -⟩ := hs.keep
    have D14 := hid d14
    have HE14 := hid (HE13.out.below bl)
    clear hs d14 bl HC D13 HE13 HW3
    have heq : evA (eV 65536 (evN gen.toNat) [] 0) gen a = (0, eV 65536 (evN gen.toNat) (opsB a) 0) := by
      rw [bV_A HG.out HRA.out (by have := HSZ.out; simp only [List.length_nil]; omega), List.nil_append]
    have HC := hid (do_eq (eappend_any gen a _ D14.out HE14.out.size HW4.out (HA.out.ext HE14.out) (by have := HLa.out; omega) (HP.out.ext15 HE14.out) (HT.out.ext HE14.out)) heq 0 rfl)
    have hw := wf_evA HW4.out gen a
    rw [heq] at hw
    have HW5 := hid hw
    clear hw heq
    go_wp2_with fail
    refine HC.out.mono ?_
    rintro e w15 ⟨rfl, hs⟩
    obtain ⟨x15, d15, bl, -, -, -⟩ := hs.keep
    have D15 := hid d15
    have HE15 := hid (HE14.out.below bl)
    clear hs d15 bl HC D14 HE14 HW4
    have HC := hid (do_eq (esync_any gen D15.out HE15.out.size HW5.out (HP.out.ext15 HE15.out)) (bV_S HG.out) 0 rfl)
    have hw := wf_evS HW5.out gen
    rw [bV_S HG.out] at hw
    have HW6 := hid hw
    clear hw
    go_wp2_with fail
    refine HC.out.mono ?_
    rintro e w16 ⟨rfl, hs⟩
    obtain ⟨x16, d16, bl, -, -, -⟩ := hs.keep
    have D16 := hid d16
    have HE16 := hid (HE15.out.below bl)
    clear hs d16 bl HC D15 HE15 HW5
    obtain ⟨sa, hsa⟩ : ∃ n, (opsB a).length = n := ⟨_, rfl⟩
    rw [hsa] at D16 HW6
    have HSA := hid hsa
    clear hsa
    go_wp2
    go_loopw [97] (fun i wr => ∃ (k : Nat) (x' : DX), k ≤ nb ∧ i = .int .i64 (k : Int) ∧ Hid (Dk w.heap.size wr p x' (eV 65536 (evN gen.toNat) (opsB (a ++ b.take k)) sa)) ∧ Hid (WF (eV 65536 (evN gen.toNat) (opsB (a ++ b.take k)) sa)) ∧ Hid (Ext w wr)) (fun i _ => nb - (intOf i).toNat)
    case atStart => exact ⟨0, x16, Nat.zero_le _, rfl, hid (by rw [List.take_zero, List.append_nil]; exact D16.out), hid (by rw [List.take_zero, List.append_nil]; exact HW6.out), HE16⟩
    case round =>
      clear D16 HW6 HE16
      obtain ⟨k, x', hk, rfl, D, HW, HE⟩ := hrel
      by_cases hlt : k < nb
      · have hkj : decide ((k : Int) < (nb : Int)) = true := by simp; omega
        have hkj2 : (k : Int) < (nb : Int) := by omega
        obtain ⟨g, rfl⟩ := HBN.out (by omega)
        have hltB : k < b.length := by rw [HNB.out]; exact hlt
        have hc := fun j u h => HE.out.cell (HBC.out g rfl k hltB j u h)
        have HEQS := And.intro (List.take_succ_eq_append_getElem hltB) (List.all_eq_true.1 HRB.out _ (List.getElem_mem hltB))
        obtain ⟨o, ho⟩ : ∃ o, b[k] = o := ⟨_, rfl⟩
        rw [ho] at hc HEQS
        obtain ⟨dd, lane, id, n, name, seg, at', size⟩ := o
        have k0 := cell_first (hc 0 _ rfl)
        have k1 := cell_next (hc 1 _ rfl) (by decide)
        have k2 := cell_next (hc 2 _ rfl) (by decide)
        have k3 := cell_next (hc 3 _ rfl) (by decide)
        have k4 := cell_next (hc 4 _ rfl) (by decide)
        have k5 := cell_next (hc 5 _ rfl) (by decide)
        have k6 := cell_next (hc 6 _ rfl) (by decide)
        have k7 := cell_next (hc 7 _ rfl) (by decide)
        obtain ⟨W1, hW1⟩ : ∃ W, wr.alloc (.cells #[.int .i64 dd, .int .i64 lane, uv id, uv n, .string (str name), uv seg, uv at', .int .i64 size] 68 (0, 0)) = W := ⟨_, rfl⟩
        have hE1 := Ext.alloc wr (.cells #[.int .i64 dd, .int .i64 lane, uv id, uv n, .string (str name), uv seg, uv at', .int .i64 size] 68 (0, 0))
        have hb1 := heap_alloc_new wr (.cells #[.int .i64 dd, .int .i64 lane, uv id, uv n, .string (str name), uv seg, uv at', .int .i64 size] 68 (0, 0))
        rw [hW1] at hE1 hb1
        obtain ⟨⟨m0, m1, m2, m3, m4, m5, m6, m7⟩, mf⟩ := blk8 hb1

        obtain ⟨htk, hra⟩ := HEQS
        have hob : opsB (a ++ b.take (k + 1)) = opsB (a ++ b.take k) ++ opsB [⟨dd, lane, id, n, name, seg, at', size⟩] := by rw [htk, ← List.append_assoc, opsB_append]
        have hone : allR [(⟨dd, lane, id, n, name, seg, at', size⟩ : Oq)] = true := by simp [allR, hra]
        have hsz : (opsB (a ++ b.take k)).length + (opsB [(⟨dd, lane, id, n, name, seg, at', size⟩ : Oq)]).length ≤ 65536 := by
          have h1 := congrArg List.length hob
          rw [List.length_append] at h1
          have h2 := opsB_len (l := a ++ b.take (k + 1)) (by rw [allR_append, HRA.out, allR_take HRB.out]; rfl)
          rw [List.length_append, List.length_take] at h2
          have := HLa.out; have := HLb.out
          omega
        have HLT := hid hlt
        obtain ⟨W2, hW2⟩ : ∃ W, W1.alloc (.cells #[.int .i64 dd, .int .i64 lane, uv id, uv n, .string (str name), uv seg, uv at', .int .i64 size] 68 (0, 0)) = W := ⟨_, rfl⟩
        have hE2 := Ext.alloc W1 (.cells #[.int .i64 dd, .int .i64 lane, uv id, uv n, .string (str name), uv seg, uv at', .int .i64 size] 68 (0, 0))
        have hb2 := heap_alloc_new W1 (.cells #[.int .i64 dd, .int .i64 lane, uv id, uv n, .string (str name), uv seg, uv at', .int .i64 size] 68 (0, 0))
        rw [hW2] at hE2 hb2
        have hops : Ops W2 (.slice (some ⟨W1.heap.size, 0, none⟩) 1 1) [⟨dd, lane, id, n, name, seg, at', size⟩] := ⟨fun _ _ => rfl, blk_sl (cs := ocells ⟨dd, lane, id, n, name, seg, at', size⟩) hb2 rfl⟩
        have HX2 := hid (HE.out.trans (hE1.trans hE2))
        have DD2 := hid (D.out.ext (hE1.trans hE2))
        have HC := hid (do_eq (eappend_any gen [⟨dd, lane, id, n, name, seg, at', size⟩] _ DD2.out HX2.out.size HW.out hops (by simp) (HP.out.ext15 HX2.out) (HT.out.ext HX2.out)) (bV_A HG.out hone hsz) 0 rfl)
        have hw := wf_evA HW.out gen [⟨dd, lane, id, n, name, seg, at', size⟩]
        rw [bV_A HG.out hone hsz, ← hob] at hw
        rw [← hob] at HC
        have HW9 := hid hw
        clear hc ho hE1 hb1 hlt hltB htk hra hob hone hsz hE2 hb2 hops hw HE D
        go_wp2_with fail
        try rw [hW1]
        try rw [hW2]
        clear hW1 hW2 k0 k1 k2 k3 k4 k5 k6 k7 m0 m1 m2 m3 m4 m5 m6 m7 mf
        refine HC.out.mono ?_
        rintro e w17 ⟨rfl, hs⟩
        obtain ⟨x17, d17, bl, -, -, -⟩ := hs.keep
        have D17 := hid d17
        have HX17 := hid (HX2.out.below bl)
        clear hs d17 bl HC DD2 HX2
        have hwk : IntKind.i64.wrap ((k : Int) + 1) = ((k + 1 : Nat) : Int) := i64e _ (by omega) (by have := HLT.out; have := HNS.out; omega)
        go_wp2
        go_roundw
        case rel => exact ⟨k + 1, x17, HLT.out, by first | rfl | go_num, D17, HW9, HX17⟩
        case measure => have := HLT.out; simp [intOf]; omega
      have hkf : decide ((k : Int) < (nb : Int)) = false := by simp; omega
      have hkf2 : (k < nb) = False := by simp; omega
      have htb : b.take k = b := List.take_of_length_le (by rw [HNB.out]; omega)
      rw [htb] at D HW
      have hTl : (opsB (a ++ b)).length = sa + (opsB b).length := by rw [opsB_append, List.length_append, HSA.out]
      obtain ⟨TT, hTT⟩ : ∃ t, opsB (a ++ b) = t := ⟨_, rfl⟩
      obtain ⟨kk, hk1, hk2, hcr⟩ := eV_crash 65536 (evN gen.toNat) (opsB (a ++ b)) sa (by omega) ts
      have hcc := dcrash_any 0 ts to tc D.out HE.out.size (by rw [HNT.out]; exact HTV.out.ext HE.out) (fun g hg hne hm => by
        have h1 := low_of15 HTV.out g hg hne
        have h2 := D.out.low15 _ hm
        omega) HTR.out (HW.out.cra 0 ts).gd
      have hw := HW.out.cra 0 ts
      rw [hcr] at hcc hw
      rw [HNT.out] at hcc
      obtain ⟨j, hj1, hj2, hj3, hload⟩ := sure_load HRAB.out (by rw [HSA.out]; exact hk1) hk2
      have HW7 := hid hw
      have HC := hid hcc
      obtain ⟨LL, hLL⟩ : ∃ l, (a ++ b).take j = l := ⟨_, rfl⟩
      rw [hLL] at hj3 hload
      have hLlen : LL.length = j := by rw [← hLL, List.length_take]; omega
      have hLall : allR LL = true := by rw [← hLL]; exact allR_take HRAB.out j
      have hLq : opsB LL = (opsB (a ++ b)).take (endL LL) := by rw [← hLL]; exact opsB_take (a ++ b) j
      have HLL := hid hLL
      have HLN : Hid (LL.length = j ∧ na ≤ j ∧ j ≤ N2) := hid ⟨hLlen, by rw [← HNA.out]; exact hj1, by rw [← HN2.out, ← HNA.out, ← HNB.out, ← List.length_append]; exact hj2⟩
      have HLR := hid hLall
      have HLQ := hid hLq
      have HLD := hid hload
      have HKK : Hid (sa ≤ kk ∧ kk ≤ (opsB (a ++ b)).length ∧ endL LL ≤ kk) := hid ⟨hk1, hk2, hj3⟩
      have HTL : Hid ((opsB (a ++ b)).length ≤ 16440) := hid (by have := HSZ.out; have := HSA.out; omega)
      clear hlt hk htb hTl hTT hk1 hk2 hcr hcc hw hj1 hj2 hj3 hload hLL hLlen hLall hLq HW
      go_wp2_with fail
      clear hkf hkf2
      refine HC.out.mono ?_
      rintro e w18 ⟨⟨uu, rfl⟩, hs⟩
      obtain ⟨x18, d18, bl, -, -, -⟩ := hs.keep
      have D18 := hid d18
      have HE18 := hid (HE.out.below bl)
      clear hs d18 bl HC D HE
      have hc := eload_any gen D18.out HW7.out (HP.out.ext15 HE18.out) (HT.out.ext HE18.out)
      rw [bV_L HG.out, HLD.out] at hc
      dsimp only at hc
      have HC := hid hc
      clear hc
      go_wp2_with fail
      refine HC.out.mono ?_
      rintro e w19 ⟨⟨u, q, rfl, hu, hq⟩, hx⟩
      obtain ⟨lo, lc, hue⟩ := OpsO.open hu
      obtain ⟨qo, qc, hqe⟩ := hq.shape
      rw [HLN.out.1] at hue
      rw [opsE_len, HLN.out.1] at hqe
      subst hue hqe
      have HUO : Hid (OpsO w19 w18.heap.size 68 (.slice lo j lc) LL ∧ ∀ q ∈ oB (Value.slice lo j lc), q ∉ x18.blk p) := hid ⟨hu, row_new D18.out hu⟩
      have HU := hid (OpsO.ops hu)
      have HQ := hid hq.vec
      have HE19 := hid (HE18.out.trans hx)
      have D19 := hid (D18.out.ext hx)
      have HULC : Hid (j ≤ lc) := hid (by have h := (OpsO.ops hu).opens.2.1; exact h)
      clear hu hq hx HC HE18 D18
      have H0 := hid (opsO_lit0 w19 w19.heap.size 68 (Nat.le_refl _))
      have HX20 := hid (Ext.alloc w19 (.cells #[] 68))
      have hjn : decide ((j : Int) < (na : Int)) = false := by have := HLN.out; simp; omega
      have hjnp : (j < na) = False := by have := HLN.out; simp; omega
      have hjn2 : decide ((N2 : Int) < (j : Int)) = false := by have := HLN.out; simp; omega
      have hjn2p : (N2 < j) = False := by have := HLN.out; simp; omega
      go_wp2_with (first
        | (at_builtin; refine wpList_append_ops rfl (.tmp 118) (.tmp 119) 33 rfl w19.heap.size 68 Tryz.underlying33 infoOp rfl H0.out rfl (HA.out.ext (HE19.out.trans HX20.out)) na (by rw [List.length_nil, Nat.zero_add]; exact HNA.out.symm) (by have := HNS.out; omega) HX20.out.size ?_; intro ao9 cap9 w20 ho9 hb9 hc9; obtain ⟨HO9, HXB9⟩ := And.intro (hid ho9) (hid (HX20.out.below hb9)); clear ho9 hb9 hc9)
        | (at_builtin; refine wpList_append_ops rfl (.tmp 120) (.tmp 121) 33 rfl w19.heap.size 68 Tryz.underlying33 infoOp rfl HO9.out rfl (HB.out.ext (HE19.out.trans HXB9.out)) N2 (by rw [List.nil_append, HNA.out, HNB.out]; exact HN2.out.symm) (by have := HNS.out; have := HN2.out; omega) HXB9.out.size ?_; intro ao10 cap10 w21 ho10 hb10 hc10; obtain ⟨HO10, HXB10, HCP10⟩ := And.intro (hid ho10) (And.intro (hid (HXB9.out.below hb10)) (hid hc10)); clear ho10 hb10 hc10))
      have HAB : Hid (Ops w21 (.slice ao10 N2 cap10) (a ++ b)) := hid (by have := OpsO.ops HO10.out; simpa using this)
      have HPR : Hid (Ops w21 (.slice ao10 j cap10) LL) := hid (by rw [← HLL.out]; exact ops_prefix HAB.out j (by rw [List.length_append, HNA.out, HNB.out, HN2.out]; exact HLN.out.2.2))
      have HU21 := hid (HU.out.ext HXB10.out)
      have HUO21 : Hid (OpsO w21 w18.heap.size 68 (.slice lo j lc) LL ∧ ∀ q ∈ oB (Value.slice lo j lc), q ∉ x18.blk p) := hid ⟨OpsO.ext HUO.out.1 HXB10.out, HUO.out.2⟩
      have HQ21 := hid (HQ.out.ext HXB10.out)
      have HE21 := hid (HE19.out.trans HXB10.out)
      have D21 := hid (D19.out.ext HXB10.out)
      have hjc : (j : Int) ≤ (cap10 : Int) := by have := HLN.out; have := HCP10.out; omega
      have hjc2 : j ≤ cap10 := by omega
      have hjne : ((j : Int) != (j : Int)) = false := by simp
      have HLS : Hid (LL.length * 72 ≤ 140737488355328) := hid (by have := HLN.out; have := HNS.out; have := HN2.out; omega)
      clear HO9 HO10 HXB9 H0 HX20 HAB HE19 D19 HU HUO HQ HXB10
      refine Par.wp_region_par (l := [_, _, _, _, _, _, _, _, _, _, _, _, _, _, _, _, _, _, _, _, _, _, _, _, _, _, _, _, _, _, _, _, _, _]) rfl Ext (Par.VL [Par.EQ (Value.int IntKind.i64 0), Par.EQ (Value.bool false), Par.EQ (Value.bool false), Par.EQ (Value.slice lo j lc), Par.EQ (Value.int IntKind.i64 (j : Int)), Par.EQ (Value.slice ao na ac), Par.EQ (Value.int IntKind.i64 (na : Int)), Par.EQ (Value.bool false), Par.EQ (Value.bool false), Par.EQ (Value.bool false), Par.EQ (Value.slice lo j lc), Par.EQ (Value.int IntKind.i64 (j : Int)), Par.EQ (Value.slice ao10 N2 cap10), Par.EQ (Value.int IntKind.i64 (N2 : Int)), Par.EQ (Value.bool false), Par.EQ (Value.bool false), Par.EQ (Value.bool false), Par.EQ (Value.slice qo j qc), Par.EQ (Value.int IntKind.i64 (j : Int)), Par.EQ (Value.slice lo j lc), Par.EQ (Value.int IntKind.i64 (j : Int)), Par.EQ (Value.bool false), Par.EQ (Value.bool false), Par.EQ (Value.bool false), Par.EQ (Value.slice lo j lc), (fun v w' => Ops w' v LL), Par.EQ (Value.slice ao10 N2 cap10), Par.EQ (Value.slice lo j lc), Par.EQ (Value.int IntKind.i64 (j : Int)), Par.EQ (Value.slice ao10 j cap10), (fun v w' => Ops w' v LL), Par.EQ (Value.bool true), Par.EQ (Value.bool false), Par.EQ (Value.bool false)]) (by kernel_rfl) Ext.refl (fun _ _ _ h1 h2 => Ext.trans h1 h2) (Ext.draw _) (Par.VL_stab ?_) ?_ ?_
      · simp only [List.forall_mem_cons, List.not_mem_nil, false_implies, implies_true, and_true]
        refine ⟨fun _ _ _ _ h => h, fun _ _ _ _ h => h, fun _ _ _ _ h => h, fun _ _ _ _ h => h, fun _ _ _ _ h => h, fun _ _ _ _ h => h, fun _ _ _ _ h => h, fun _ _ _ _ h => h, fun _ _ _ _ h => h, fun _ _ _ _ h => h, fun _ _ _ _ h => h, fun _ _ _ _ h => h, fun _ _ _ _ h => h, fun _ _ _ _ h => h, fun _ _ _ _ h => h, fun _ _ _ _ h => h, fun _ _ _ _ h => h, fun _ _ _ _ h => h, fun _ _ _ _ h => h, fun _ _ _ _ h => h, fun _ _ _ _ h => h, fun _ _ _ _ h => h, fun _ _ _ _ h => h, fun _ _ _ _ h => h, fun _ _ _ _ h => h, fun v x y k h => RowsOf.ext h k, fun _ _ _ _ h => h, fun _ _ _ _ h => h, fun _ _ _ _ h => h, fun _ _ _ _ h => h, fun v x y k h => RowsOf.ext h k, fun _ _ _ _ h => h, fun _ _ _ _ h => h, fun _ _ _ _ h => h⟩
      · refine ⟨⟨fun _ _ => trivial, fun ρ w' hX hG hk => ?_⟩, ?_⟩
        · exact Par.val_of_run rfl ⟨Ext.refl _, hk.1⟩
        refine ⟨⟨fun _ _ => trivial, fun ρ w' hX hG hk => ?_⟩, ?_⟩
        · obtain ⟨k0, k1, -⟩ := hk
          have e0 : ρ (.tmp 123) = Value.int IntKind.i64 0 := k0
          have e1 : ρ (Operand.const (Value.int IntKind.i64 0)) = (Value.int IntKind.i64 0) := k1
          clear k0 k1
          refine Par.val_k fun K hK => ?_
          unfold Par.val
          (go_simp; exact hK _ _ ⟨Ext.refl _, rfl⟩)
        refine ⟨⟨fun _ _ => trivial, fun ρ w' hX hG hk => ?_⟩, ?_⟩
        · exact Par.val_of_run rfl ⟨Ext.refl _, hk.1⟩
        refine ⟨⟨fun _ _ u hu => .inl hu, fun ρ w' hX hG hk => ?_⟩, ?_⟩
        · exact Par.val_of_run rfl ⟨Ext.refl _, hk.1⟩
        refine ⟨⟨fun _ _ u hu => .inl hu, fun ρ w' hX hG hk => ?_⟩, ?_⟩
        · obtain ⟨k0, -⟩ := hk
          have e0 : ρ (.tmp 126) = Value.slice lo j lc := k0
          clear k0
          refine Par.val_k fun K hK => ?_
          unfold Par.val
          (go_simp; exact hK _ _ ⟨Ext.refl _, rfl⟩)
        refine ⟨⟨fun _ _ u hu => .inl hu, fun ρ w' hX hG hk => ?_⟩, ?_⟩
        · exact Par.val_of_run rfl ⟨Ext.refl _, hk.1⟩
        refine ⟨⟨fun _ _ u hu => .inl hu, fun ρ w' hX hG hk => ?_⟩, ?_⟩
        · obtain ⟨k0, -⟩ := hk
          have e0 : ρ (.tmp 128) = Value.slice ao na ac := k0
          clear k0
          refine Par.val_k fun K hK => ?_
          unfold Par.val
          (go_simp; exact hK _ _ ⟨Ext.refl _, rfl⟩)
        refine ⟨⟨fun _ _ u hu => .inl hu, fun ρ w' hX hG hk => ?_⟩, ?_⟩
        · obtain ⟨k0, k1, -⟩ := hk
          have e0 : ρ (.tmp 127) = Value.int IntKind.i64 (j : Int) := k0
          have e1 : ρ (.tmp 129) = Value.int IntKind.i64 (na : Int) := k1
          clear k0 k1
          refine Par.val_k fun K hK => ?_
          unfold Par.val
          (go_simp; exact hK _ _ ⟨Ext.refl _, rfl⟩)
        refine ⟨⟨fun _ _ => trivial, fun ρ w' hX hG hk => ?_⟩, ?_⟩
        · obtain ⟨k0, k1, k2, -⟩ := hk
          have e0 : ρ (.tmp 125) = Value.bool false := k0
          have e1 : ρ (Operand.const (Value.bool true)) = (Value.bool true) := k1
          have e2 : ρ (.tmp 130) = Value.bool false := k2
          clear k0 k1 k2
          refine Par.val_k fun K hK => ?_
          unfold Par.val
          (go_simp; exact hK _ _ ⟨Ext.refl _, rfl⟩)
        refine ⟨⟨fun _ _ => trivial, fun ρ w' hX hG hk => ?_⟩, ?_⟩
        · exact Par.val_of_run rfl ⟨Ext.refl _, hk.1⟩
        refine ⟨⟨fun _ _ u hu => .inl hu, fun ρ w' hX hG hk => ?_⟩, ?_⟩
        · exact Par.val_of_run rfl ⟨Ext.refl _, hk.1⟩
        refine ⟨⟨fun _ _ u hu => .inl hu, fun ρ w' hX hG hk => ?_⟩, ?_⟩
        · obtain ⟨k0, -⟩ := hk
          have e0 : ρ (.tmp 133) = Value.slice lo j lc := k0
          clear k0
          refine Par.val_k fun K hK => ?_
          unfold Par.val
          (go_simp; exact hK _ _ ⟨Ext.refl _, rfl⟩)
        refine ⟨⟨fun _ _ u hu => .inl hu, fun ρ w' hX hG hk => ?_⟩, ?_⟩
        · exact Par.val_of_run rfl ⟨Ext.refl _, hk.1⟩
        refine ⟨⟨fun _ _ u hu => .inl hu, fun ρ w' hX hG hk => ?_⟩, ?_⟩
        · obtain ⟨k0, -⟩ := hk
          have e0 : ρ (.tmp 135) = Value.slice ao10 N2 cap10 := k0
          clear k0
          refine Par.val_k fun K hK => ?_
          unfold Par.val
          (go_simp; exact hK _ _ ⟨Ext.refl _, rfl⟩)
        refine ⟨⟨fun _ _ u hu => .inl hu, fun ρ w' hX hG hk => ?_⟩, ?_⟩
        · obtain ⟨k0, k1, -⟩ := hk
          have e0 : ρ (.tmp 134) = Value.int IntKind.i64 (j : Int) := k0
          have e1 : ρ (.tmp 136) = Value.int IntKind.i64 (N2 : Int) := k1
          clear k0 k1
          refine Par.val_k fun K hK => ?_
          unfold Par.val
          (go_simp; exact hK _ _ ⟨Ext.refl _, rfl⟩)
        refine ⟨⟨fun _ _ => trivial, fun ρ w' hX hG hk => ?_⟩, ?_⟩
        · obtain ⟨k0, k1, k2, -⟩ := hk
          have e0 : ρ (.tmp 132) = Value.bool false := k0
          have e1 : ρ (Operand.const (Value.bool true)) = (Value.bool true) := k1
          have e2 : ρ (.tmp 137) = Value.bool false := k2
          clear k0 k1 k2
          refine Par.val_k fun K hK => ?_
          unfold Par.val
          (go_simp; exact hK _ _ ⟨Ext.refl _, rfl⟩)
        refine ⟨⟨fun _ _ => trivial, fun ρ w' hX hG hk => ?_⟩, ?_⟩
        · exact Par.val_of_run rfl ⟨Ext.refl _, hk.1⟩
        refine ⟨⟨fun _ _ u hu => .inl hu, fun ρ w' hX hG hk => ?_⟩, ?_⟩
        · exact Par.val_of_run rfl ⟨Ext.refl _, hk.1⟩
        refine ⟨⟨fun _ _ u hu => .inl hu, fun ρ w' hX hG hk => ?_⟩, ?_⟩
        · obtain ⟨k0, -⟩ := hk
          have e0 : ρ (.tmp 140) = Value.slice qo j qc := k0
          clear k0
          refine Par.val_k fun K hK => ?_
          unfold Par.val
          (go_simp; exact hK _ _ ⟨Ext.refl _, rfl⟩)
        refine ⟨⟨fun _ _ u hu => .inl hu, fun ρ w' hX hG hk => ?_⟩, ?_⟩
        · exact Par.val_of_run rfl ⟨Ext.refl _, hk.1⟩
        refine ⟨⟨fun _ _ u hu => .inl hu, fun ρ w' hX hG hk => ?_⟩, ?_⟩
        · obtain ⟨k0, -⟩ := hk
          have e0 : ρ (.tmp 142) = Value.slice lo j lc := k0
          clear k0
          refine Par.val_k fun K hK => ?_
          unfold Par.val
          (go_simp; exact hK _ _ ⟨Ext.refl _, rfl⟩)
        refine ⟨⟨fun _ _ u hu => .inl hu, fun ρ w' hX hG hk => ?_⟩, ?_⟩
        · obtain ⟨k0, k1, -⟩ := hk
          have e0 : ρ (.tmp 141) = Value.int IntKind.i64 (j : Int) := k0
          have e1 : ρ (.tmp 143) = Value.int IntKind.i64 (j : Int) := k1
          clear k0 k1
          refine Par.val_k fun K hK => ?_
          unfold Par.val
          (go_simp; exact hK _ _ ⟨Ext.refl _, rfl⟩)
        refine ⟨⟨fun _ _ => trivial, fun ρ w' hX hG hk => ?_⟩, ?_⟩
        · obtain ⟨k0, k1, k2, -⟩ := hk
          have e0 : ρ (.tmp 139) = Value.bool false := k0
          have e1 : ρ (Operand.const (Value.bool true)) = (Value.bool true) := k1
          have e2 : ρ (.tmp 144) = Value.bool false := k2
          clear k0 k1 k2
          refine Par.val_k fun K hK => ?_
          unfold Par.val
          (go_simp; exact hK _ _ ⟨Ext.refl _, rfl⟩)
        refine ⟨⟨fun _ _ => trivial, fun ρ w' hX hG hk => ?_⟩, ?_⟩
        · exact Par.val_of_run rfl ⟨Ext.refl _, hk.1⟩
        refine ⟨⟨fun _ _ u hu => .inl hu, fun ρ w' hX hG hk => ?_⟩, ?_⟩
        · exact Par.val_of_run rfl ⟨Ext.refl _, hk.1⟩
        refine ⟨⟨fun _ _ u hu => .inl hu, fun ρ w' hX hG hk => ?_⟩, ?_⟩
        · obtain ⟨k0, k1, -⟩ := hk
          have e0 := k0
          have e1 : ρ (.tmp 147) = Value.slice lo j lc := k1
          clear k0 k1
          refine Par.val_k fun K hK => ?_
          unfold Par.val
          refine Par.val_call Tryz.func13 (by kernel_rfl) rfl e0 ?_
          simp only [List.map_toArray, List.map_cons, List.map_nil, e1]
          refine (own17_any (.slice lo j lc) LL _ (HU21.out.ext hX) HLS.out).mono ?_
          rintro e w2 ⟨⟨u9, rfl, ho9⟩, hx9⟩
          exact ⟨_, rfl, hK _ _ ⟨hx9, ho9.ops⟩⟩
        refine ⟨⟨fun _ _ u hu => .inl hu, fun ρ w' hX hG hk => ?_⟩, ?_⟩
        · exact Par.val_of_run rfl ⟨Ext.refl _, hk.1⟩
        refine ⟨⟨fun _ _ u hu => .inl hu, fun ρ w' hX hG hk => ?_⟩, ?_⟩
        · exact Par.val_of_run rfl ⟨Ext.refl _, hk.1⟩
        refine ⟨⟨fun _ _ u hu => .inl hu, fun ρ w' hX hG hk => ?_⟩, ?_⟩
        · obtain ⟨k0, -⟩ := hk
          have e0 : ρ (.tmp 150) = Value.slice lo j lc := k0
          clear k0
          refine Par.val_k fun K hK => ?_
          unfold Par.val
          (go_simp; exact hK _ _ ⟨Ext.refl _, rfl⟩)
        refine ⟨⟨fun _ _ u hu => .inl hu, fun ρ w' hX hG hk => ?_⟩, ?_⟩
        · obtain ⟨k0, k1, -⟩ := hk
          have e0 : ρ (.tmp 149) = Value.slice ao10 N2 cap10 := k0
          have e1 : ρ (.tmp 151) = Value.int IntKind.i64 (j : Int) := k1
          clear k0 k1
          refine Par.val_k fun K hK => ?_
          unfold Par.val
          (go_simp; exact hK _ _ ⟨Ext.refl _, rfl⟩)
        refine ⟨⟨fun _ _ u hu => .inl hu, fun ρ w' hX hG hk => ?_⟩, ?_⟩
        · obtain ⟨k0, k1, -⟩ := hk
          have e0 := k0
          have e1 : ρ (.tmp 152) = Value.slice ao10 j cap10 := k1
          clear k0 k1
          refine Par.val_k fun K hK => ?_
          unfold Par.val
          refine Par.val_call Tryz.func13 (by kernel_rfl) rfl e0 ?_
          simp only [List.map_toArray, List.map_cons, List.map_nil, e1]
          refine (own17_any (.slice ao10 j cap10) LL _ (HPR.out.ext hX) HLS.out).mono ?_
          rintro e w2 ⟨⟨u9, rfl, ho9⟩, hx9⟩
          exact ⟨_, rfl, hK _ _ ⟨hx9, ho9.ops⟩⟩
        refine ⟨⟨fun _ _ u hu => .inl hu, fun ρ w' hX hG hk => ?_⟩, ?_⟩
        · obtain ⟨k0, k1, k2, -⟩ := hk
          have e0 := k0
          have e1 : (fun v w' => Ops w' v LL) (ρ (.tmp 148)) w' := k1
          have e2 : (fun v w' => Ops w' v LL) (ρ (.tmp 153)) w' := k2
          clear k0 k1 k2
          refine Par.val_k fun K hK => ?_
          unfold Par.val
          refine Par.val_call Tryz.func18 (by kernel_rfl) rfl e0 ?_
          simp only [List.map_toArray, List.map_cons, List.map_nil]
          refine (same17_any _ _ LL _ e1 e2).mono ?_
          rintro e w2 ⟨rfl, hx9⟩
          exact ⟨_, rfl, hK _ _ ⟨hx9, rfl⟩⟩
        refine ⟨⟨fun _ _ u hu => .inl hu, fun ρ w' hX hG hk => ?_⟩, ?_⟩
        · obtain ⟨k0, -⟩ := hk
          have e0 : ρ (.tmp 154) = Value.bool true := k0
          clear k0
          refine Par.val_k fun K hK => ?_
          unfold Par.val
          (go_simp; exact hK _ _ ⟨Ext.refl _, rfl⟩)
        refine ⟨⟨fun _ _ => trivial, fun ρ w' hX hG hk => ?_⟩, ?_⟩
        · obtain ⟨k0, k1, k2, -⟩ := hk
          have e0 : ρ (.tmp 146) = Value.bool false := k0
          have e1 : ρ (Operand.const (Value.bool true)) = (Value.bool true) := k1
          have e2 : ρ (.tmp 155) = Value.bool false := k2
          clear k0 k1 k2
          refine Par.val_k fun K hK => ?_
          unfold Par.val
          (go_simp; exact hK _ _ ⟨Ext.refl _, rfl⟩)
        trivial
      intro a' w' inv
      have hX := inv.ext
      have q123 : a'.tmps.getD 123 undef = Value.int IntKind.i64 0 := inv.done 0 _ 123 rfl rfl rfl
      have q124 : a'.tmps.getD 124 undef = Value.bool false := inv.done 1 _ 124 rfl rfl rfl
      have q125 : a'.tmps.getD 125 undef = Value.bool false := inv.done 2 _ 125 rfl rfl rfl
      have q126 : a'.tmps.getD 126 undef = Value.slice lo j lc := inv.done 3 _ 126 rfl rfl rfl
      have q127 : a'.tmps.getD 127 undef = Value.int IntKind.i64 (j : Int) := inv.done 4 _ 127 rfl rfl rfl
      have q128 : a'.tmps.getD 128 undef = Value.slice ao na ac := inv.done 5 _ 128 rfl rfl rfl
      have q129 : a'.tmps.getD 129 undef = Value.int IntKind.i64 (na : Int) := inv.done 6 _ 129 rfl rfl rfl
      have q130 : a'.tmps.getD 130 undef = Value.bool false := inv.done 7 _ 130 rfl rfl rfl
      have q131 : a'.tmps.getD 131 undef = Value.bool false := inv.done 8 _ 131 rfl rfl rfl
      have q132 : a'.tmps.getD 132 undef = Value.bool false := inv.done 9 _ 132 rfl rfl rfl
      have q133 : a'.tmps.getD 133 undef = Value.slice lo j lc := inv.done 10 _ 133 rfl rfl rfl
      have q134 : a'.tmps.getD 134 undef = Value.int IntKind.i64 (j : Int) := inv.done 11 _ 134 rfl rfl rfl
      have q135 : a'.tmps.getD 135 undef = Value.slice ao10 N2 cap10 := inv.done 12 _ 135 rfl rfl rfl
      have q136 : a'.tmps.getD 136 undef = Value.int IntKind.i64 (N2 : Int) := inv.done 13 _ 136 rfl rfl rfl
      have q137 : a'.tmps.getD 137 undef = Value.bool false := inv.done 14 _ 137 rfl rfl rfl
      have q138 : a'.tmps.getD 138 undef = Value.bool false := inv.done 15 _ 138 rfl rfl rfl
      have q139 : a'.tmps.getD 139 undef = Value.bool false := inv.done 16 _ 139 rfl rfl rfl
      have q140 : a'.tmps.getD 140 undef = Value.slice qo j qc := inv.done 17 _ 140 rfl rfl rfl
      have q141 : a'.tmps.getD 141 undef = Value.int IntKind.i64 (j : Int) := inv.done 18 _ 141 rfl rfl rfl
      have q142 : a'.tmps.getD 142 undef = Value.slice lo j lc := inv.done 19 _ 142 rfl rfl rfl
      have q143 : a'.tmps.getD 143 undef = Value.int IntKind.i64 (j : Int) := inv.done 20 _ 143 rfl rfl rfl
      have q144 : a'.tmps.getD 144 undef = Value.bool false := inv.done 21 _ 144 rfl rfl rfl
      have q145 : a'.tmps.getD 145 undef = Value.bool false := inv.done 22 _ 145 rfl rfl rfl
      have q146 : a'.tmps.getD 146 undef = Value.bool false := inv.done 23 _ 146 rfl rfl rfl
      have q147 : a'.tmps.getD 147 undef = Value.slice lo j lc := inv.done 24 _ 147 rfl rfl rfl
      have q148 : (fun v w' => Ops w' v LL) (a'.tmps.getD 148 undef) w' := inv.done 25 _ 148 rfl rfl rfl
      have q149 : a'.tmps.getD 149 undef = Value.slice ao10 N2 cap10 := inv.done 26 _ 149 rfl rfl rfl
      have q150 : a'.tmps.getD 150 undef = Value.slice lo j lc := inv.done 27 _ 150 rfl rfl rfl
      have q151 : a'.tmps.getD 151 undef = Value.int IntKind.i64 (j : Int) := inv.done 28 _ 151 rfl rfl rfl
      have q152 : a'.tmps.getD 152 undef = Value.slice ao10 j cap10 := inv.done 29 _ 152 rfl rfl rfl
      have q153 : (fun v w' => Ops w' v LL) (a'.tmps.getD 153 undef) w' := inv.done 30 _ 153 rfl rfl rfl
      have q154 : a'.tmps.getD 154 undef = Value.bool true := inv.done 31 _ 154 rfl rfl rfl
      have q155 : a'.tmps.getD 155 undef = Value.bool false := inv.done 32 _ 155 rfl rfl rfl
      have q156 : a'.tmps.getD 156 undef = Value.bool false := inv.done 33 _ 156 rfl rfl rfl
      clear inv
      simp only [List.filterMap_cons, List.filterMap_nil, Par.putAll, Act.put, List.setIfInBounds_toArray, List.set_cons_succ, List.set_cons_zero, q123, q124, q125, q126, q127, q128, q129, q130, q131, q132, q133, q134, q135, q136, q137, q138, q139, q140, q141, q142, q143, q144, q145, q146, q147, q149, q150, q151, q152, q154, q155, q156]
      clear q123 q124 q125 q126 q127 q128 q129 q130 q131 q132 q133 q134 q135 q136 q137 q138 q139 q140 q141 q142 q143 q144 q145 q146 q147 q149 q150 q151 q152 q154 q155 q156
      generalize a'.tmps.getD 148 undef = u148 at *
      generalize a'.tmps.getD 153 undef = u153 at *
      clear a'
      clear hjn hjnp hjn2 hjn2p hjc hjc2 hjne
      have HE22 := hid (HE21.out.trans hX)
      have D22 := hid (D21.out.ext hX)
      have HQ22 := hid (HQ21.out.ext hX)
      have HUO22 : Hid (OpsO w' w18.heap.size 68 (.slice lo j lc) LL ∧ ∀ q ∈ oB (Value.slice lo j lc), q ∉ x18.blk p) := hid ⟨OpsO.ext HUO21.out.1 hX, HUO21.out.2⟩
      clear hX HE21 D21 HQ21 HU21 HUO21 HPR
      obtain ⟨en, hen⟩ : ∃ n, endL LL = n := ⟨_, rfl⟩
      rw [hen] at HLQ HKK
      obtain ⟨m', hcut⟩ := sure_cut (R := 65536) (T := opsB (a ++ b)) (k := kk) (m := kk) (q := en) HG.out HKK.out.2.2 HKK.out.2.1 (Nat.le_refl _)
      rw [← HLQ.out] at hcut
      have HCUT := hid hcut
      have hwc := wf_evC HW7.out gen (en : Int)
      rw [hcut] at hwc
      have HW8 := hid hwc
      have heqA : evA (eV 65536 (evN gen.toNat) (opsB LL) m') gen c = (0, eV 65536 (evN gen.toNat) (opsB (LL ++ c)) m') := by
        rw [bV_A HG.out HRC.out (by
          have h1 := congrArg List.length HLQ.out
          rw [List.length_take] at h1
          have := HSZ.out; have := HTL.out
          omega), opsB_append]
      have hwa := wf_evA HW8.out gen c
      rw [heqA] at hwa
      have HEQA := hid heqA
      have HW9 := hid hwa
      have hRL : allR (LL ++ c) = true := by rw [allR_append, HLR.out, HRC.out]; rfl
      have HRL := hid hRL
      have HEN : Hid (endL LL = en) := hid hen
      clear hcut hwc heqA hwa hRL hen
      rcases Nat.eq_zero_or_pos j with hj0 | hj0
      · have hen0 : en = 0 := by rw [← HEN.out]; exact endL_nil (by rw [HLN.out.1]; exact hj0)
        have hd : decide ((0 : Int) < (j : Int)) = false := by simp; omega
        have hdp : (0 < j) = False := by simp; omega
        have hc := do_eq (ecut_any gen (en : Int) D22.out HE22.out.size HW7.out (HP.out.ext15 HE22.out)) HCUT.out 0 rfl
        rw [hen0] at hc
        have HC : Hid (Calls Tryz.prog 20 #[pv p, uv gen, .int .i64 0] w' fun e w'' => e = .returned (.int .i64 0) ∧ Stp w.heap.size w' p x18 (eV 65536 (evN gen.toNat) (opsB LL) m') w'') := hid hc
        clear hc hen0 hj0
        go_wp2_with fail
        clear hd hdp
        refine HC.out.mono ?_
        rintro e w23 ⟨rfl, hs⟩
        obtain ⟨x23, d23, bl, kb⟩ := hs.keepR
        obtain ⟨hr23, hn23⟩ := kb _ _ _ _ _ _ HUO22.out.1 HUO22.out.2
        have HUO23 : Hid (OpsO w23 w18.heap.size 68 (.slice lo j lc) LL ∧ ∀ q ∈ oB (Value.slice lo j lc), q ∉ x23.blk p) := hid ⟨hr23, hn23⟩
        have D23 := hid d23
        have HE23 := hid (HE22.out.below bl)
        clear hs d23 bl kb hr23 hn23 HC D22 HE22 HUO22
        have HC := hid (do_eq (eappend_any gen c _ D23.out HE23.out.size HW8.out (HCc.out.ext HE23.out) (by have := HLc.out; omega) (HP.out.ext15 HE23.out) (HT.out.ext HE23.out)) HEQA.out 0 rfl)
        go_wp2_with fail
        refine HC.out.mono ?_
        rintro e w24 ⟨rfl, hs⟩
        obtain ⟨x24, d24, bl, kb⟩ := hs.keepR
        obtain ⟨hr24, -⟩ := kb _ _ _ _ _ _ HUO23.out.1 HUO23.out.2
        have HU24 : Hid (Ops w24 (.slice lo j lc) LL) := hid (show OpsO w24 w18.heap.size 68 (.slice lo j lc) LL from hr24).ops
        have D24 := hid d24
        have HE24 := hid (HE23.out.below bl)
        clear hs d24 bl kb hr24 HC D23 HE23 HUO23
        have hc := eload_any gen D24.out HW9.out (HP.out.ext15 HE24.out) (HT.out.ext HE24.out)
        rw [bV_L HG.out, load_ops HRL.out] at hc
        dsimp only at hc
        have HC := hid hc
        clear hc
        go_wp2_with fail
        refine HC.out.mono ?_
        rintro e w25 ⟨⟨u, q, rfl, hu, hq⟩, hx⟩
        obtain ⟨mo, mc, hme⟩ := OpsO.open hu
        obtain ⟨zo, zc, rfl⟩ := hq.shape
        obtain ⟨N5, hN5⟩ : ∃ n, (LL ++ c).length = n := ⟨_, rfl⟩
        rw [hN5] at hme
        subst hme
        have HN5 : Hid (j + nc = N5) := hid (by rw [← hN5, List.length_append, HLN.out.1, HNC.out])
        have HM5 := hid (OpsO.ops hu)
        have HE25 := hid (HE24.out.trans hx)
        have HU25 := hid (HU24.out.ext hx)
        have HSZ5 : Hid ((LL ++ c).length * 72 ≤ 140737488355328 ∧ N5 ≤ 1000000) := hid (by
          have := HLN.out; have := HNS.out; have := HN2.out
          rw [hN5, ← HN5.out]
          omega)
        have HL5 := hid hN5
        clear hu hq hx hN5 HC D24 HE24 HU24
        have HC := hid (own17_any _ (LL ++ c) w25 HM5.out HSZ5.out.1)
        go_wp2_with fail
        refine HC.out.mono ?_
        rintro e w26 ⟨⟨u, rfl, ho⟩, hx⟩
        obtain ⟨yo, yc, rfl⟩ := OpsO.open ho
        rw [HL5.out] at ho ⊢
        have HY26 := hid (OpsO.ops ho)
        have HE26 := hid (HE25.out.trans hx)
        have HU26 := hid (HU25.out.ext hx)
        clear ho hx HC HM5 HE25 HU25
        have H0 := hid (opsO_lit0 w26 w26.heap.size 68 (Nat.le_refl _))
        have HX27 := hid (Ext.alloc w26 (.cells #[] 68))
        go_wp2_with (first
          | (at_builtin; refine wpList_unguard rfl ?_; refine wpList_append_ops rfl (.tmp 190) (.tmp 191) 33 rfl w26.heap.size 68 Tryz.underlying33 infoOp rfl H0.out rfl (HU26.out.ext HX27.out) j (by rw [List.length_nil, Nat.zero_add]; exact HLN.out.1.symm) (by have := HLN.out; have := HNS.out; have := HN2.out; omega) HX27.out.size ?_; intro aoA capA wA hoA hbA hcA; obtain ⟨HOA, HXBA⟩ := And.intro (hid hoA) (hid (HX27.out.below hbA)); clear hoA hbA hcA)
          | (at_builtin; refine wpList_unguard rfl ?_; refine wpList_append_ops rfl (.tmp 192) (.tmp 193) 33 rfl w26.heap.size 68 Tryz.underlying33 infoOp rfl HOA.out rfl (HCc.out.ext (HE26.out.trans HXBA.out)) N5 (by rw [List.nil_append, HLN.out.1, HNC.out]; exact HN5.out.symm) HSZ5.out.2 HXBA.out.size ?_; intro aoB capB wB hoB hbB hcB; obtain ⟨HOB, HXBB⟩ := And.intro (hid hoB) (hid (HXBA.out.below hbB)); clear hoB hbB hcB))
        have HXR : Hid (Ops wB (.slice aoB N5 capB) (LL ++ c)) := hid (by have := OpsO.ops HOB.out; simpa using this)
        have HE27 := hid (HE26.out.trans HXBB.out)
        have HY27 := hid (HY26.out.ext HXBB.out)
        clear HOA HOB HXBA HXBB H0 HX27 HE26 HU26 HY26
        have HC := hid (own17_any _ (LL ++ c) wB HXR.out HSZ5.out.1)
        go_wp2_with fail
        refine HC.out.mono ?_
        rintro e w28 ⟨⟨u, rfl, ho⟩, hx⟩
        obtain ⟨vo, vc2, rfl⟩ := OpsO.open ho
        rw [HL5.out] at ho ⊢
        have HE28 := hid (HE27.out.trans hx)
        have HC := hid (same17_any _ _ (LL ++ c) w28 (HY27.out.ext hx) ho.ops)
        clear ho hx HE27 HY27
        go_wp2_with fail
        refine HC.out.mono ?_
        rintro e w29 ⟨rfl, hx⟩
        have HE29 := hid (HE28.out.trans hx)
        clear hx HC HE28
        go_wp2
        go_returns
        exact ⟨by first | rfl | simp, HE29.out⟩
      · obtain ⟨jm, hjm⟩ : ∃ n, n + 1 = j := ⟨j - 1, by omega⟩
        have hd : decide ((0 : Int) < (j : Int)) = true := by simp; omega
        have hwj : IntKind.i64.wrap ((j : Int) - 1) = (jm : Int) := i64e _ (by omega) (by have := HLN.out; have := HNS.out; have := HN2.out; omega)
        have hjl : (jm : Int) < (j : Int) := by omega
        obtain ⟨hqN, hqL, hqM, hqn, hqc⟩ : (j = (opsE 0 LL).length ∧ j ≤ qc ∧ qc ≤ 9223372036854775807 ∧ (0 < qc → ∃ a, qo = some a) ∧ ∀ a, qo = some a → ∀ i (h : i < (opsE 0 LL).length), w'.cell? (a.add i) = some (Go.Tum.iv (opsE 0 LL)[i])) := HQ22.out.opens
        have hlq : LL.length - 1 < (opsE 0 LL).length := by rw [opsE_len, HLN.out.1]; omega
        have hlast := endL_last (l := LL) (by rw [HLN.out.1]; exact hj0) hlq
        obtain ⟨g, rfl⟩ := hqn (by omega)
        have hcl := hqc g rfl (LL.length - 1) hlq
        rw [hlast, HEN.out] at hcl
        have hjm2 : LL.length - 1 = jm := by rw [HLN.out.1]; omega
        rw [hjm2] at hcl
        change w'.cell? (g.add jm) = some (.int .i64 (en : Int)) at hcl
        have HC := hid (do_eq (ecut_any gen (en : Int) D22.out HE22.out.size HW7.out (HP.out.ext15 HE22.out)) HCUT.out 0 rfl)
        clear hjm hqN hqL hqM hqn hqc hlq hlast hjm2
        go_wp2_with fail
        clear hd hwj hjl hcl
        refine HC.out.mono ?_
        rintro e w23 ⟨rfl, hs⟩
        obtain ⟨x23, d23, bl, kb⟩ := hs.keepR
        obtain ⟨hr23, hn23⟩ := kb _ _ _ _ _ _ HUO22.out.1 HUO22.out.2
        have HUO23 : Hid (OpsO w23 w18.heap.size 68 (.slice lo j lc) LL ∧ ∀ q ∈ oB (Value.slice lo j lc), q ∉ x23.blk p) := hid ⟨hr23, hn23⟩
        have D23 := hid d23
        have HE23 := hid (HE22.out.below bl)
        clear hs d23 bl kb hr23 hn23 HC D22 HE22 HUO22
        have HC := hid (do_eq (eappend_any gen c _ D23.out HE23.out.size HW8.out (HCc.out.ext HE23.out) (by have := HLc.out; omega) (HP.out.ext15 HE23.out) (HT.out.ext HE23.out)) HEQA.out 0 rfl)
        go_wp2_with fail
        refine HC.out.mono ?_
        rintro e w24 ⟨rfl, hs⟩
        obtain ⟨x24, d24, bl, kb⟩ := hs.keepR
        obtain ⟨hr24, -⟩ := kb _ _ _ _ _ _ HUO23.out.1 HUO23.out.2
        have HU24 : Hid (Ops w24 (.slice lo j lc) LL) := hid (show OpsO w24 w18.heap.size 68 (.slice lo j lc) LL from hr24).ops
        have D24 := hid d24
        have HE24 := hid (HE23.out.below bl)
        clear hs d24 bl kb hr24 HC D23 HE23 HUO23
        have hc := eload_any gen D24.out HW9.out (HP.out.ext15 HE24.out) (HT.out.ext HE24.out)
        rw [bV_L HG.out, load_ops HRL.out] at hc
        dsimp only at hc
        have HC := hid hc
        clear hc
        go_wp2_with fail
        refine HC.out.mono ?_
        rintro e w25 ⟨⟨u, q, rfl, hu, hq⟩, hx⟩
        obtain ⟨mo, mc, hme⟩ := OpsO.open hu
        obtain ⟨zo, zc, rfl⟩ := hq.shape
        obtain ⟨N5, hN5⟩ : ∃ n, (LL ++ c).length = n := ⟨_, rfl⟩
        rw [hN5] at hme
        subst hme
        have HN5 : Hid (j + nc = N5) := hid (by rw [← hN5, List.length_append, HLN.out.1, HNC.out])
        have HM5 := hid (OpsO.ops hu)
        have HE25 := hid (HE24.out.trans hx)
        have HU25 := hid (HU24.out.ext hx)
        have HSZ5 : Hid ((LL ++ c).length * 72 ≤ 140737488355328 ∧ N5 ≤ 1000000) := hid (by
          have := HLN.out; have := HNS.out; have := HN2.out
          rw [hN5, ← HN5.out]
          omega)
        have HL5 := hid hN5
        clear hu hq hx hN5 HC D24 HE24 HU24
        have HC := hid (own17_any _ (LL ++ c) w25 HM5.out HSZ5.out.1)
        go_wp2_with fail
        refine HC.out.mono ?_
        rintro e w26 ⟨⟨u, rfl, ho⟩, hx⟩
        obtain ⟨yo, yc, rfl⟩ := OpsO.open ho
        rw [HL5.out] at ho ⊢
        have HY26 := hid (OpsO.ops ho)
        have HE26 := hid (HE25.out.trans hx)
        have HU26 := hid (HU25.out.ext hx)
        clear ho hx HC HM5 HE25 HU25
        have H0 := hid (opsO_lit0 w26 w26.heap.size 68 (Nat.le_refl _))
        have HX27 := hid (Ext.alloc w26 (.cells #[] 68))
        go_wp2_with (first
          | (at_builtin; refine wpList_unguard rfl ?_; refine wpList_append_ops rfl (.tmp 190) (.tmp 191) 33 rfl w26.heap.size 68 Tryz.underlying33 infoOp rfl H0.out rfl (HU26.out.ext HX27.out) j (by rw [List.length_nil, Nat.zero_add]; exact HLN.out.1.symm) (by have := HLN.out; have := HNS.out; have := HN2.out; omega) HX27.out.size ?_; intro aoA capA wA hoA hbA hcA; obtain ⟨HOA, HXBA⟩ := And.intro (hid hoA) (hid (HX27.out.below hbA)); clear hoA hbA hcA)
          | (at_builtin; refine wpList_unguard rfl ?_; refine wpList_append_ops rfl (.tmp 192) (.tmp 193) 33 rfl w26.heap.size 68 Tryz.underlying33 infoOp rfl HOA.out rfl (HCc.out.ext (HE26.out.trans HXBA.out)) N5 (by rw [List.nil_append, HLN.out.1, HNC.out]; exact HN5.out.symm) HSZ5.out.2 HXBA.out.size ?_; intro aoB capB wB hoB hbB hcB; obtain ⟨HOB, HXBB⟩ := And.intro (hid hoB) (hid (HXBA.out.below hbB)); clear hoB hbB hcB))
        have HXR : Hid (Ops wB (.slice aoB N5 capB) (LL ++ c)) := hid (by have := OpsO.ops HOB.out; simpa using this)
        have HE27 := hid (HE26.out.trans HXBB.out)
        have HY27 := hid (HY26.out.ext HXBB.out)
        clear HOA HOB HXBA HXBB H0 HX27 HE26 HU26 HY26
        have HC := hid (own17_any _ (LL ++ c) wB HXR.out HSZ5.out.1)
        go_wp2_with fail
        refine HC.out.mono ?_
        rintro e w28 ⟨⟨u, rfl, ho⟩, hx⟩
        obtain ⟨vo, vc2, rfl⟩ := OpsO.open ho
        rw [HL5.out] at ho ⊢
        have HE28 := hid (HE27.out.trans hx)
        have HC := hid (same17_any _ _ (LL ++ c) w28 (HY27.out.ext hx) ho.ops)
        clear ho hx HE27 HY27
        go_wp2_with fail
        refine HC.out.mono ?_
        rintro e w29 ⟨rfl, hx⟩
        have HE29 := hid (HE28.out.trans hx)
        clear hx HC HE28
        go_wp2
        go_returns
        exact ⟨by first | rfl | simp, HE29.out⟩
end Go.Proofs.YtinancnlangkjaaGreatDoor

namespace Go.Proofs.YtinancnlangkjaaGreatDoor.eventsSure
open Go.ChangeShapes Go.WideShapes Go.ChangeAt Go.RowKit
open Go.ChangeMaps (open_string shut_string)
set_option linter.unusedVariables false
set_option maxRecDepth 100000

theorem own : ownKnob Tryz.prog.godebug = none := by kernel_rfl
theorem kid1 : laidOutB Tryz.prog = true := by kernel_rfl
theorem kid2 : mapsRowed Tryz.prog = true := by kernel_rfl
theorem kid3 : ((List.range Tryz.prog.types.size).all fun t => match Tryz.prog.underlying t with | some (.slice e) => decide (0 < Tryz.prog.cellsOf e) | _ => true) = true := by kernel_rfl
theorem kid4 : ∀ t ∈ Tryz.f4.params.toList, t < Tryz.prog.types.size := by decide +kernel
theorem gTab : Tryz.prog.globalNamed "internal/strconv.uint64pow10" = some 2 := by kernel_rfl
theorem gTabType : (Tryz.prog.globals[2]?).map (·.type) = some 195 := by kernel_rfl
theorem cellsT : Tryz.prog.cellsOf 195 = 20 := by kernel_rfl
theorem cellsE : Tryz.prog.cellsOf 32 = 1 := by kernel_rfl
theorem powIs : (Rows.laid_internal_strconv_uint64pow10 : DataW Unit) = Lib.tabData .u64 Lib.pow10Tab := by kernel_rfl
theorem table {W : World} (h : laidMetH Tryz.prog Rows.eventsSureRow.laid W) : Pw W := by
  have h' : laidMet Tryz.prog Rows.eventsSureRow.laid W := h
  have hr := Lib.laidMet.reads h' (n := "internal/strconv.uint64pow10") (d := Rows.laid_internal_strconv_uint64pow10) (.tail _ (.tail _ (.head _)))
  rw [powIs] at hr
  obtain ⟨g', t', cs, fuel, p, hg', ht', hvar, hd⟩ := hr
  obtain rfl := Option.some.inj (gTab.symm.trans hg')
  obtain rfl := Option.some.inj (gTabType.symm.trans ht')
  show Lib.TabIs _ _ _ _ _
  unfold Lib.TabIs
  rw [hvar, ← Lib.cells_of_tab Tryz.underlying195 Tryz.underlying32 cellsE cellsT hd]
theorem gTab2 : Tryz.prog.globalNamed "tumbrel/record.numbers" = some 0 := by kernel_rfl
theorem gTabType2 : (Tryz.prog.globals[0]?).map (·.type) = some 158 := by kernel_rfl
theorem cellsT2 : Tryz.prog.cellsOf 158 = 18 := by kernel_rfl
theorem cellsE2 : Tryz.prog.cellsOf 3 = 1 := by kernel_rfl
theorem numIs : (Rows.laid_tumbrel_record_numbers : DataW Unit) = Lib.tabData .i64 tabZ := by kernel_rfl
theorem table2 {W : World} (h : laidMetH Tryz.prog Rows.eventsSureRow.laid W) : Tab W := by
  have h' : laidMet Tryz.prog Rows.eventsSureRow.laid W := h
  have hr := Lib.laidMet.reads h' (n := "tumbrel/record.numbers") (d := Rows.laid_tumbrel_record_numbers) (.tail _ (.tail _ (.tail _ (.head _))))
  rw [numIs] at hr
  obtain ⟨g', t', cs, fuel, p, hg', ht', hvar, hd⟩ := hr
  obtain rfl := Option.some.inj (gTab2.symm.trans hg')
  obtain rfl := Option.some.inj (gTabType2.symm.trans ht')
  have ht : Lib.TabIs Tryz.prog W "tumbrel/record.numbers" .i64 tabZ := by
    unfold Lib.TabIs
    rw [hvar, ← Lib.cells_of_tab Tryz.underlying158 Tryz.underlying3 cellsE2 cellsT2 hd]
  intro i hi
  rw [← tabZ_at ⟨i, hi⟩]
  exact ht.cell gTab2 i hi

set_option maxRecDepth 100000 in
theorem contract (H : Type) (enc : TypeId × Value → H) (W : World) (base : Nat) (args : Array Value) (ds gs : List (DataW H)) (before : List MemPlace)
    (hval : ∀ (j : Nat) t v, Tryz.f4.params[j]? = some t → args[j]? = some v → Value.okWide Tryz.prog W .any base t v)
    (hW : DataW.Whole enc Tryz.prog Tryz.f4.params.toList Rows.eventsSureSpec.vars false W args.toList ds gs before) (hL : laidMetH Tryz.prog Rows.eventsSureRow.laid W)
    (hz : (DataW.weightsEach Tryz.prog (Tryz.f4.params.toList ++ (OpenSpec.ofChange Rows.eventsSureSpec).bare.plain.varTypes Tryz.prog) (ds ++ gs)).all (· ≤ reachBytes) = true) :
    Calls Tryz.prog 4 args W fun e W' => ∃ v, e = .returned v ∧ Rows.eventsSureSpec.post enc Tryz.prog Tryz.f4 false true false false W args v W' := by
  have hW' := hW
  obtain ⟨p, q, hA0, hV, rfl, hfz, hnd⟩ := hW
  have hA : DataW.TrodAll enc Tryz.prog W 0 (fun _ => true) true Tryz.f4.params.toList args.toList ds p := hA0
  rw [Tryz.params4] at hA hval
  obtain ⟨v0, vs0, d0, ds0, p0, q0, hargs, rfl, rfl, h0, r0⟩ := trodAll_cons hA
  obtain ⟨v1, vs1, d1, ds1, p1, q1, rfl, rfl, rfl, h1, r1⟩ := trodAll_cons r0
  obtain ⟨v2, vs2, d2, ds2, p2, q2, rfl, rfl, rfl, h2, r2⟩ := trodAll_cons r1
  obtain ⟨v3, vs3, d3, ds3, p3, q3, rfl, rfl, rfl, h3, r3⟩ := trodAll_cons r2
  obtain ⟨v4, vs4, d4, ds4, p4, q4, rfl, rfl, rfl, h4, r4⟩ := trodAll_cons r3
  obtain ⟨rfl, rfl, rfl⟩ := trodAll_nil r4
  obtain rfl : args = #[v0, v1, v2, v3, v4] := by cases args; simp_all
  obtain ⟨rfl, rfl⟩ := trodVars_none hV
  obtain ⟨a0, rfl, rfl, rfl, w0⟩ := open_int Tryz.underlying32 (hval 0 32 v0 rfl rfl) h0; obtain ⟨x0, rfl⟩ := Go.Tum.u64_of w0
  obtain ⟨m1, hm1, hs1⟩ := open_opsQ (hval 1 33 v1 rfl rfl) h1
  obtain ⟨m2, hm2, hs2⟩ := open_opsQ (hval 2 33 v2 rfl rfl) h2
  obtain ⟨m3, hm3, hs3⟩ := open_opsQ (hval 3 33 v3 rfl rfl) h3
  obtain ⟨l4, hl4, hr4⟩ := open_iv15 (hval 4 34 v4 rfl rfl) h4
  refine (eventsSure_law x0 v1 v2 v3 v4 m1 m2 m3 l4 W hm1 hm2 hm3 (ops_small hz (j := 1) rfl rfl hs1) (ops_small hz (j := 2) rfl rfl hs2) (ops_small hz (j := 3) rfl rfl hs3) hl4 hr4 (table hL) (table2 hL)).mono fun e W' ⟨he, hg⟩ => ?_
  subst he
  exact ⟨_, rfl, Go.Tum.law_post kid1 kid2 kid3 kid4 rfl Tryz.underlying4 hW' rfl rfl hg⟩

def litC (d : DataW Unit) : Array Value := match d with
  | .agg ds => (ds.map fun x => match x with
    | .lit (.int k n) => Value.int k n
    | _ => .tuple #[]).toArray
  | _ => #[]
/-- A world for the witness: the settled one, the tables laid. -/
noncomputable def laidWorld (os : Os) : World :=
  let w0 := World.holding Tryz.prog os ⟨#[], #[], []⟩
  let put (h : Array Obj) (g : Nat) (cs : Array Value) : Array Obj := h.modify g fun
    | .cells _ t frozen => .cells cs t frozen
    | o => o
  { w0 with heap := put (put (put (put w0.heap 0 (litC Rows.laid_tumbrel_record_numbers)) 2 (litC Rows.laid_internal_strconv_uint64pow10)) 3 (litC Rows.laid_math_bits_deBruijn32tab)) 4 (litC Rows.laid_math_bits_deBruijn64tab) }
theorem laid_met (os : Os) : laidMet Tryz.prog Rows.eventsSureRow.laid ((laidWorld os).forCall (fun _ _ => 0) ⟨#[], #[.int .u64 0, .slice none 0 0, .slice none 0 0, .slice none 0 0, .slice none 0 0], []⟩).memory :=
  laidMet_of_run3 10 (by kernel_rfl) (by kernel_rfl) (by kernel_rfl)
theorem reads (os : Os) {H : Type} (enc : TypeId × Value → H) : ∃ places, DataW.whole enc Tryz.prog ((laidWorld os).forCall (fun _ _ => 0) ⟨#[], #[.int .u64 0, .slice none 0 0, .slice none 0 0, .slice none 0 0, .slice none 0 0], []⟩).memory Tryz.f4.params.toList Rows.eventsSureSpec.vars false #[Value.int .u64 0, Value.slice none 0 0, Value.slice none 0 0, Value.slice none 0 0, Value.slice none 0 0].toList 8 = some ([.lit (.int .u64 0), .nil, .nil, .nil, .nil], [], places) :=
  ⟨[], by kernel_rfl⟩

set_option maxRecDepth 100000 in
theorem lifted (os : Os) (started : os.Started) (H : Type) (enc : TypeId × Value → H) (F : Stop.Interp) :
    ReturnsInHanded {} Tryz.checked os 4 .any ((OpenSpec.ofChange Rows.eventsSureSpec).preRow enc Tryz.prog Tryz.f4 Rows.eventsSureRow.domain false Rows.eventsSureRow.laid) (((OpenSpec.ofChange Rows.eventsSureSpec).at F).post enc Tryz.prog Tryz.f4 false true false false) := by
  obtain ⟨places, hx⟩ := reads os enc
  refine returnsInHanded_of_row (C := Tryz.checked) (s := OpenSpec.ofChange Rows.eventsSureSpec) own started (by kernel_rfl) Tryz.func4
    (witness_row_at (enc := enc) (C := Tryz.checked) false (laidWorld os) #[.int .u64 0, .slice none 0 0, .slice none 0 0, .slice none 0 0, .slice none 0 0] rfl (by kernel_rfl) (by kernel_rfl) (by kernel_rfl)
      (OpenSpec.preRow_of_cond 8 hx (by kernel_rfl) (fun k hk => by cases hk) (by kernel_rfl) (laid_met os))) ?_
  intro W base args ds gs before hval hW _ _ hz hL _ _
  exact contract H enc W base args ds gs before hval hW hL hz

theorem said : Rows.EventsSureSaid :=
  OpenClaim.holds_of_cond 4 Tryz.f4 rfl rfl rfl rfl rfl rfl rfl ⟨rfl, rfl, rfl, rfl, rfl⟩ rfl rfl rfl rfl rfl (by kernel_rfl) Tryz.func4 (by kernel_rfl)
    (of_decide_eq_true (by kernel_rfl)) (by unfold Func.isWrapper; first | (rw [if_pos (by decide +kernel)]; kernel_rfl) | (rw [if_neg (by decide +kernel)]; exact ⟨rfl, rfl⟩))
    (fun os started H enc _ F => by rw [OpenClaim.pre_eq_preRow]; exact lifted os started H enc F)

theorem plain (f : FuncId) (fn : Func) (hf : Tryz.pinned.checked.prog.funcNamed "tumbrel/tumbrellaw17.EventsSure" = some f) (hfn : Tryz.pinned.checked.prog.funcs[f]? = some fn) :
    true = Tryz.pinned.checked.prog.looks [] ∧ ∀ (j : Nat) t, fn.params[j]? = some t → Tryz.pinned.checked.prog.wantsStandIn t = false := by
  obtain rfl : f = 4 := Option.some.inj ((show Tryz.prog.funcNamed "tumbrel/tumbrellaw17.EventsSure" = some 4 by kernel_rfl).symm.trans hf) |>.symm
  obtain rfl : fn = Tryz.f4 := (Option.some.inj (Tryz.func4.symm.trans hfn)).symm
  refine ⟨by kernel_rfl, fun j t ht => ?_⟩
  rw [Tryz.params4] at ht
  have hm := Array.mem_of_getElem? ht
  have hall : ∀ t ∈ Tryz.f4.params.toList, Tryz.prog.wantsStandIn t = false := by decide +kernel
  rw [Tryz.params4] at hall
  exact hall t (by simpa using hm)

theorem proved : Rows.EventsSureCardSaid :=
  Claim7.holds_tied_plain_at .later [] _ _ _ _ said (fun _ h => by cases h) (by kernel_rfl) (fun _ h => by cases h) eventsSure_row_tie rfl ⟨rfl, rfl⟩ (by kernel_rfl) rfl plain (by kernel_rfl)
end Go.Proofs.YtinancnlangkjaaGreatDoor.eventsSure

