/- For every input the law SeglogSure returns true and leaves what was there as it was; and its card.
SeglogSure. -/
import Derived.Test.YtmbigiihcplcjaaGreatDoorSegMH
import Derived.Test.YtmbigiihcplcjaaGreatDoorCards
import Derived.Test.YtmbigiihcplcjaaGreatDoorTie
import Derived.WalkKit
import Derived.ProofKit
import Derived.OpenShut
import Derived.Below
import Derived.Deep.DeepHandedRow
import Derived.Lib.LaidTab
import Derived.Lib.LaidU8
import Derived.Deep.DeepLaidRun
import Derived.ShutString
import Derived.Test.YtmbigiihcplcjaaGreatDoorFrame
import Derived.Lib.SmallJoins
import Derived.Test.YtmbigiihcplcjaaGreatDoorRecMT
set_option linter.unusedSimpArgs false
set_option linter.unusedVariables false
set_option maxRecDepth 100000
namespace Go.Proofs.YtmbigiihcplcjaaGreatDoor
open Go Go.RowKit Go.Tum Go.ChangeMaps Go.Tum.Crc Go.Nam

/-- What stays sure, whatever is appended. -/
structure SurOk (a : Nat) (size : Int) (L : List (List UInt8)) (k : Nat) (s : PS) (g : LG) : Prop where
  wf : WF s
  sk : ∀ i (hi : i < L.length), SK s (segN (a + i)) i L[i]
  op : s.opn.length ≤ k
  sg : g.seg.toNat ≤ 2000 + k
  at' : g.at'.toNat ≤ 1000000 + 411 * k
  mo : g.most = size
theorem SurOk.app {a : Nat} {size : Int} {L : List (List UInt8)} {k : Nat} {s : PS} {g : LG} (h : SurOk a size L k s g) (r : Rc) : SurOk a size L (k + 1) (appG s g r).s (appG s g r).g := by
  obtain ⟨h1, h2, h3⟩ := appG_g s g r
  have h4 := appG_opn s g r
  have h5 := h.op
  have h6 := h.sg
  have h7 := h.at'
  exact ⟨wf_appG h.wf g r, fun i hi => (h.sk i hi).appG g r, by omega, by omega, by omega, h2.trans h.mo⟩
set_option maxHeartbeats 4000000 in
theorem seglogSure_law (seg : UInt64) (size : Int) (v : Value) (m : List (Rc × Value)) (v2 : Value) (m2 : List (Rc × Value)) (opn : Int) (tv : Value) (tl : List Int) (w : World) (hr : RowsOf w 3 v rcells m) (hi : ∀ q ∈ m, Vec uv w q.2 q.1.n) (hr2 : RowsOf w 3 v2 rcells m2) (hi2 : ∀ q ∈ m2, Vec uv w q.2 q.1.n) (htl : Vec Go.Tum.iv w tv tl) (htr : ∀ t ∈ tl, -9223372036854775808 ≤ t ∧ t ≤ 9223372036854775807) (hp : Pw w) (ht : Tab w) :
    Calls Tryz.prog 5 #[uv seg, .int .i64 size, v, v2, .int .i64 opn, tv] w fun e w' => e = .returned (.bool true) ∧ Ext w w' := by
  have HR := hid hr
  have HI := hid hi
  have HI2 := hid hi2
  have HTL := hid htl
  have HTR := hid htr
  have HP := hid hp
  have HT := hid ht
  obtain ⟨vo0, vc0, rfl, -⟩ := hr.open
  obtain ⟨ao, cap, rfl, hle, hmx, hnn, hcell⟩ := hr2.open
  obtain ⟨to, tc, rfl, -⟩ := htl.open
  have HC := hid hcell
  have HNN := hid hnn
  have HCA := hid (awake15_any w ht hp)
  clear hr hi hr2 hi2 htl htr hp ht hcell hnn
  go_enter Tryz.func5, Tryz.ntmps5
  go_wp2_with fail
  refine HCA.out.mono ?_
  rintro e w1 ⟨rfl, hx⟩
  have HE1 := hid hx
  have HCF := hid (full_any seg size _ m (HR.out.ext hx) (fun q hq => (HI.out q hq).ext hx) (Pw.ext15 HP.out hx) (HT.out.ext hx))
  clear hx HCA
  go_wp2_with fail
  refine HCF.out.mono ?_
  rintro e w2 hfr
  rcases hfr with ⟨rfl, hx⟩ | ⟨p, b, x, g, D, c, ps, po, pc, rfl, l2, fo, pl, sep, pv0, hx⟩
  · have HE2 := hid (HE1.out.trans hx)
    clear hx HCF
    go_wp2
    go_returns
    exact ⟨rfl, HE2.out⟩
  have L2 := hid l2
  have FO := hid fo
  have HX2 := hid hx
  have HRW : Hid (w2.ownsRow w1.heap.size 72 5 (.slice po ps.length pc) ps.length (ps.flatMap plcells) ∧ ∀ a ∈ oB (.slice po ps.length pc), a ∉ b :: x.blk p) := hid ⟨pl.1, fun a ha hm => by
    rcases List.mem_cons.1 hm with e | e
    · exact (sep a ha).1 e
    · exact (sep a ha).2 e⟩
  have HPV : Hid (∀ q ∈ ps, Vec uv w1 q.2 q.1.r.n) := hid pv0
  obtain ⟨pn, hpn⟩ : ∃ n, ps.length = n := ⟨_, rfl⟩
  have HPN := hid hpn
  rw [hpn] at HRW ⊢
  clear l2 fo pl sep pv0 hx HCF hpn
  by_cases hm1 : 50 < m2.length
  · have d1 : decide ((50 : Int) < (m2.length : Int)) = true := by simp; omega
    clear hm1
    go_wp2
    go_returns
    exact ⟨rfl, HE1.out.trans HX2.out⟩
  have d1 : decide ((50 : Int) < (m2.length : Int)) = false := by simp; omega
  have HM2 : Hid (m2.length ≤ 50) := hid (by omega)
  by_cases hm2 : 100 < tl.length
  · have d2 : decide ((100 : Int) < (tl.length : Int)) = true := by simp; omega
    clear hm1 hm2
    go_wp2
    go_returns
    exact ⟨rfl, HE1.out.trans HX2.out⟩
  have d2 : decide ((100 : Int) < (tl.length : Int)) = false := by simp; omega
  clear hm1 hm2
  have HPB : ∀ w', Ext w1 w' → PwB w1.heap.size w' := fun w' h => pwB_of (Pw.ext15 HP.out HE1.out) h
  have HPBH := hid HPB
  have hsl : seg.toNat + (D ++ [c]).length ≤ 10000000000 := by
    have h1 := FO.out.sg
    have h2 := FO.out.dl
    have h3 := FO.out.ln
    rw [List.length_append, List.length_singleton]
    omega
  have HSL := hid hsl
  have hgs : g.seg.toNat ≤ 1051 := by
    have h1 := FO.out.sg
    have h2 := FO.out.dl
    have h3 := FO.out.ln
    rw [FO.out.gf.sg]
    omega
  have HGS := hid hgs
  have hcl : c.length ≤ 411 * 50 := by
    have h1 := FO.out.sm
    have h2 := FO.out.ln
    rw [List.map_append, List.sum_append] at h1
    simp at h1
    omega
  have HCL := hid hcl
  have hc := ssync_any L2.out HX2.out.size FO.out.wf (HPB _ HX2.out) (by omega) (by rw [FO.out.un, FO.out.gf.sg]; omega)
  have hwf := wf_synG FO.out.wf g
  rw [fs_sync (R := 131072) FO.out.gf (by rw [FO.out.un]) FO.out.bg hsl] at hc hwf
  have HCS := hid hc
  have HWS := hid hwf
  clear hc hwf hsl hgs hcl HPB
  go_wp2_with fail
  clear d1 d2
  refine HCS.out.mono ?_
  rintro e w3 ⟨rfl, hs⟩
  obtain ⟨x3, l3, f3, b3, q3⟩ := LStp.open hs
  have HRW3 := hid (row_step15 HRW.out.1 HRW.out.2 f3 q3)
  have HX3 := hid (HX2.out.below b3)
  have L3 := hid l3
  have HCE := hid (send_any l3)
  clear hs f3 b3 q3 l3 HCS L2 HRW
  go_wp2_with fail
  refine HCE.out.mono ?_
  rintro e w4 ⟨rfl, hx⟩
  dsimp only
  obtain ⟨sg0, hsg0⟩ : ∃ s, g.seg = s := ⟨_, rfl⟩
  obtain ⟨at0, hat0⟩ : ∃ s, g.at' = s := ⟨_, rfl⟩
  have HSG0 := hid hsg0
  have HAT0 := hid hat0
  rw [hsg0, hat0]
  have HRW4 := hid (And.intro (Ext.owns hx HRW3.out.1) HRW3.out.2)
  have HX4 := hid (HX3.out.trans hx)
  have L4 := hid (L3.out.ext hx)
  have HS4 : Hid (SurOk seg.toNat size (D ++ [c]) 0 (fsD 131072 seg.toNat (D ++ [c])) { g with uns := g.seg + 1, beg := false }) := hid ⟨HWS.out, fun i hi => fsD_sk 131072 seg.toNat (D ++ [c]) HSL.out hi, Nat.le_refl _, by have := HGS.out; show g.seg.toNat ≤ _; omega, by have h1 := HCL.out; have h2 := FO.out.gf.at'; show g.at'.toNat ≤ _; omega, FO.out.gf.mo⟩
  clear hx hsg0 hat0 HCE L3 HX3 HRW3 HWS
  go_wp2
  go_loopw [58] (fun iv wr => ∃ (k : Nat) (xr : DX) (sr : PS) (gr : LG), k ≤ m2.length ∧ iv = .int .i64 (k : Int) ∧ Hid (Lg w1.heap.size wr p b xr sr gr) ∧ Hid (SurOk seg.toNat size (D ++ [c]) k sr gr) ∧ Hid (wr.ownsRow w1.heap.size 72 5 (.slice po pn pc) pn (ps.flatMap plcells) ∧ ∀ a ∈ oB (.slice po pn pc), a ∉ b :: xr.blk p) ∧ Hid (Ext w1 wr)) (fun iv _ => m2.length - (intOf iv).toNat)
  case atStart => exact ⟨0, x3, _, _, Nat.zero_le _, rfl, L4, HS4, HRW4, HX4⟩
  case round =>
    clear L4 HS4 HRW4 HX4 x3
    obtain ⟨k, xr, sr, gr, hk, rfl, L, HS, HRW, HX⟩ := hrel
    by_cases hlt : k < m2.length
    · have hki : decide (k < m2.length) = true := by simpa using hlt
      have hkj : decide ((k : Int) < (m2.length : Int)) = true := by simp; omega
      obtain ⟨a, rfl⟩ := HNN.out (by omega)
      have hEw := HE1.out.trans HX.out
      have hc0 := hEw.cell (HC.out a rfl k hlt 0 _ rfl)
      have hc1 := hEw.cell (HC.out a rfl k hlt 1 _ rfl)
      have hc2 := hEw.cell (HC.out a rfl k hlt 2 _ rfl)
      have hvk := HI2.out m2[k] (List.getElem_mem hlt)
      obtain ⟨q, hq⟩ : ∃ q, m2[k] = q := ⟨_, rfl⟩
      rw [hq] at hc0 hc1 hc2 hvk
      obtain ⟨⟨kind, rn, text⟩, u⟩ := q
      dsimp only at hc0 hc1 hc2 hvk
      obtain ⟨uo, uc, rfl, -⟩ := hvk.open
      obtain ⟨un, hun⟩ : ∃ n, rn.length = n := ⟨_, rfl⟩
      rw [hun] at hc1 hvk
      have HVK := hid hvk
      have HLT := hid hlt
      have k0 := cell_first hc0
      have k1 := cell_next hc1 (by decide)
      have k2 := cell_next hc2 (by decide)
      clear hq hc0 hc1 hc2 hvk hun hlt hk hEw
      obtain ⟨W1, hW1⟩ : ∃ W, wr.alloc (.cells #[.int .i64 kind, .slice uo un uc, .string (str text)] 41 (0, 0)) = W := ⟨_, rfl⟩
      have hE1 := Ext.alloc wr (.cells #[.int .i64 kind, .slice uo un uc, .string (str text)] 41 (0, 0))
      have hb1 := heap_alloc_new wr (.cells #[.int .i64 kind, .slice uo un uc, .string (str text)] 41 (0, 0))
      rw [hW1] at hE1 hb1
      have HE1' := hid hE1
      have HX1 := hid (HX.out.trans hE1)
      have HB1 := hid hb1
      obtain ⟨m0, m1, m2', mf⟩ := lk3 hb1
      have hcl := large_any ⟨kind, rn, text⟩ (.slice uo un uc) W1 (HVK.out.ext (HE1.out.trans HX1.out))
      obtain ⟨lb, hlb⟩ : ∃ c, largeB (⟨kind, rn, text⟩ : Rc) = c := ⟨_, rfl⟩
      rw [hlb] at hcl
      have HCL2 := hid hcl
      clear hE1 hb1 hcl hlb
      go_wp2_with fail
      try rw [hW1]
      clear hW1 m0 m1 m2' mf
      refine HCL2.out.mono ?_
      rintro e w6 ⟨rfl, hx⟩
      have HE6 := hid (HE1'.out.trans hx)
      have HX6 := hid (HX1.out.trans hx)
      obtain ⟨m0, m1, m2', mf⟩ := lk3 (hx.obj HB1.out)
      clear hx HCL2 HX1 HB1 HE1'
      cases lb
      case true =>
        clear m0 m1 m2' mf hki hkj
        go_wp2
        go_returns
        exact ⟨rfl, HE1.out.trans HX6.out⟩
      have hca := sapp_any ⟨kind, rn, text⟩ (.slice uo un uc) (L.out.ext HE6.out) (HVK.out.ext (HE1.out.trans HX6.out)) HX6.out.size HS.out.wf (by have := HS.out.op; have := HLT.out; have := HM2.out; omega) (HPBH.out _ HX6.out) (HT.out.ext (HE1.out.trans HX6.out)) (by have := HS.out.sg; have := HLT.out; have := HM2.out; omega) (by have := HS.out.at'; have := HLT.out; have := HM2.out; omega) (by rw [HS.out.mo]; exact mayB_most FO.out.my)
      have hsn := HS.out.app ⟨kind, rn, text⟩
      obtain ⟨A, hA⟩ : ∃ A, appG sr gr ⟨kind, rn, text⟩ = A := ⟨_, rfl⟩
      rw [hA] at hca hsn
      obtain ⟨ae, asg, aat, ast, ag⟩ := A
      dsimp only at hsn
      have HCP := hid hca
      have HSN := hid hsn
      clear hca hsn hA
      go_wp2_with fail
      clear m0 m1 m2' mf
      refine HCP.out.mono ?_
      rintro e w7 ⟨rfl, hs⟩
      dsimp only at hs ⊢
      obtain ⟨x7, l7, f7, b7, q7⟩ := LStp.open hs
      have HRW7 := hid (row_step15 (Ext.owns HE6.out HRW.out.1) HRW.out.2 f7 q7)
      have HX7 := hid (HX6.out.below b7)
      have L7 := hid l7
      clear hs f7 b7 q7 l7 HCP
      go_wp2
      go_roundw
      case rel => exact ⟨k + 1, x7, ast, ag, HLT.out, by go_num, L7, HSN, HRW7, HX7⟩
      case measure => simp [intOf]; have := HLT.out; omega
    · obtain rfl : k = m2.length := by omega
      have hki : decide (m2.length < m2.length) = false := by simp
      have hcc := dcrash_any opn tl to tc L.out.dk HX.out.size (HTL.out.ext (HE1.out.trans HX.out)) (fun a ha hne hm => by
        have h1 := low_of15 HTL.out a ha hne
        have h2 := L.out.dk.low15 _ hm
        have h3 := HE1.out.size
        omega) HTR.out (HS.out.wf.cra opn tl).gd
      have HCC := hid hcc
      have HWC := hid (HS.out.wf.cra opn tl)
      have hrk : ∀ i (hi : i < (D ++ [c]).length), RK (crP sr opn tl) (segN (seg.toNat + i)) i (D ++ [c])[i] := fun i hi => (HS.out.sk i hi).crash opn tl
      have hmy : mayB sg0 size = true := by
        have h1 := HGS.out
        have h2 := mayB_most FO.out.my
        unfold mayB
        simp only [Bool.and_eq_true, decide_eq_true_eq]
        exact ⟨h2.1, h2.2, by rw [← HSG0.out]; omega⟩
      obtain ⟨s9, hop, hdn, hrk9⟩ := open_sure rfl hrk rfl rfl hmy (seg := sg0) (at' := at0) (most := size) (by rw [← HSG0.out]; exact FO.out.gf.sg) (by rw [← HAT0.out]; exact FO.out.gf.at')
      have HOP := hid hop
      have HRD := hid (rk_rds hrk9 hdn)
      clear hlt hk hrk hmy hop hdn hrk9 hcc
      go_wp2_with fail
      clear hki
      refine HCC.out.mono ?_
      rintro e w5 ⟨⟨uu, rfl⟩, hs⟩
      obtain ⟨x5, d5, bl5, f5, q5, -⟩ := Stp.keep hs
      have HRW5 := hid (row_step15 HRW.out.1 (fun a ha hm => HRW.out.2 a ha (List.mem_cons_of_mem _ hm)) f5 q5)
      have HX5 := hid (HX.out.below bl5)
      have D5 := hid d5
      have hco := sopen_any sg0 at0 size d5 HX5.out.size HWC.out (Pw.ext15 HP.out (HE1.out.trans HX5.out))
      rw [HOP.out] at hco
      have HCO := hid hco
      clear hs d5 bl5 f5 q5 hco HCC L HRW HX
      go_wp2_with fail
      refine HCO.out.mono ?_
      rintro e w6 ⟨-, h⟩
      obtain ⟨b6, x6, rfl, l6, q6, f6, bl6, n6⟩ := h _ rfl
      have HRW6 := hid (row_step15 HRW5.out.1 HRW5.out.2 f6 n6)
      have HX6 := hid (HX5.out.below bl6)
      have L6 := hid l6
      have HCE := hid (send_any l6)
      clear h l6 q6 f6 bl6 n6 HCO D5 HRW5 HX5
      go_wp2_with fail
      refine HCE.out.mono ?_
      rintro e w7 ⟨rfl, hx⟩
      dsimp only
      have HX7 := hid (HX6.out.trans hx)
      have L7 := hid (L6.out.ext hx)
      have HO7 := hid (Ext.owns hx HRW6.out.1)
      clear hx HCE L6 HRW6 HX6
      have hpls : Pls w7 (.slice po pn pc) ps := ⟨⟨fun _ _ => rfl, by rw [HPN.out]; exact Sl.of_owns HO7.out⟩, fun q hq => (HPV.out q hq).ext HX7.out⟩
      have hct := there_any (.slice po pn pc) ps L7.out hpls (fun q hq => ⟨(FO.out.ok.pl q.1 (List.mem_map_of_mem hq)).1, (FO.out.ok.pl q.1 (List.mem_map_of_mem hq)).rd HSL.out HRD.out⟩) (Pw.ext15 HP.out (HE1.out.trans HX7.out)) (HT.out.ext (HE1.out.trans HX7.out))
      have HCT := hid hct
      clear hpls hct
      go_wp2_with fail
      refine HCT.out.mono ?_
      rintro e w8 ⟨rfl, hx⟩
      have HX8 := hid (HX7.out.trans hx)
      clear hx HCT
      have e1 : ((sg0.toNat : Int) == (sg0.toNat : Int)) = true := by simp
      have e2 : ((at0.toNat : Int) == (at0.toNat : Int)) = true := by simp
      go_wp2
      go_returns
      exact ⟨rfl, HE1.out.trans HX8.out⟩
end Go.Proofs.YtmbigiihcplcjaaGreatDoor

namespace Go.Proofs.YtmbigiihcplcjaaGreatDoor.seglogSure
open Go.ChangeShapes Go.WideShapes Go.ChangeAt Go.RowKit
open Go.ChangeMaps (open_string shut_string)
set_option linter.unusedVariables false
set_option maxRecDepth 100000

theorem own : ownKnob Tryz.prog.godebug = none := by kernel_rfl
theorem kid1 : laidOutB Tryz.prog = true := by kernel_rfl
theorem kid2 : mapsRowed Tryz.prog = true := by kernel_rfl
theorem kid3 : ((List.range Tryz.prog.types.size).all fun t => match Tryz.prog.underlying t with | some (.slice e) => decide (0 < Tryz.prog.cellsOf e) | _ => true) = true := by kernel_rfl
theorem kid4 : ∀ t ∈ Tryz.f5.params.toList, t < Tryz.prog.types.size := by decide +kernel
theorem gTab : Tryz.prog.globalNamed "internal/strconv.uint64pow10" = some 1 := by kernel_rfl
theorem gTabType : (Tryz.prog.globals[1]?).map (·.type) = some 219 := by kernel_rfl
theorem cellsT : Tryz.prog.cellsOf 219 = 20 := by kernel_rfl
theorem cellsE : Tryz.prog.cellsOf 22 = 1 := by kernel_rfl
theorem powIs : (Rows.laid_internal_strconv_uint64pow10 : DataW Unit) = Lib.tabData .u64 Lib.pow10Tab := by kernel_rfl
theorem table {W : World} (h : laidMetH Tryz.prog Rows.seglogSureRow.laid W) : Pw W := by
  have h' : laidMet Tryz.prog Rows.seglogSureRow.laid W := h
  have hr := Lib.laidMet.reads h' (n := "internal/strconv.uint64pow10") (d := Rows.laid_internal_strconv_uint64pow10) (.tail _ (.tail _ (.head _)))
  rw [powIs] at hr
  obtain ⟨g', t', cs, fuel, p, hg', ht', hvar, hd⟩ := hr
  obtain rfl := Option.some.inj (gTab.symm.trans hg')
  obtain rfl := Option.some.inj (gTabType.symm.trans ht')
  show Lib.TabIs _ _ _ _ _
  unfold Lib.TabIs
  rw [hvar, ← Lib.cells_of_tab Tryz.underlying219 Tryz.underlying22 cellsE cellsT hd]
theorem gTab2 : Tryz.prog.globalNamed "tumbrel/record.numbers" = some 0 := by kernel_rfl
theorem gTabType2 : (Tryz.prog.globals[0]?).map (·.type) = some 145 := by kernel_rfl
theorem cellsT2 : Tryz.prog.cellsOf 145 = 18 := by kernel_rfl
theorem cellsE2 : Tryz.prog.cellsOf 3 = 1 := by kernel_rfl
theorem numIs : (Rows.laid_tumbrel_record_numbers : DataW Unit) = Lib.tabData .i64 tabZ := by kernel_rfl
theorem table2 {W : World} (h : laidMetH Tryz.prog Rows.seglogSureRow.laid W) : Tab W := by
  have h' : laidMet Tryz.prog Rows.seglogSureRow.laid W := h
  have hr := Lib.laidMet.reads h' (n := "tumbrel/record.numbers") (d := Rows.laid_tumbrel_record_numbers) (.tail _ (.tail _ (.tail _ (.head _))))
  rw [numIs] at hr
  obtain ⟨g', t', cs, fuel, p, hg', ht', hvar, hd⟩ := hr
  obtain rfl := Option.some.inj (gTab2.symm.trans hg')
  obtain rfl := Option.some.inj (gTabType2.symm.trans ht')
  have ht : Lib.TabIs Tryz.prog W "tumbrel/record.numbers" .i64 tabZ := by
    unfold Lib.TabIs
    rw [hvar, ← Lib.cells_of_tab Tryz.underlying145 Tryz.underlying3 cellsE2 cellsT2 hd]
  intro i hi
  rw [← tabZ_at ⟨i, hi⟩]
  exact ht.cell gTab2 i hi

set_option maxRecDepth 100000 in
theorem contract (H : Type) (enc : TypeId × Value → H) (W : World) (base : Nat) (args : Array Value) (ds gs : List (DataW H)) (before : List MemPlace)
    (hval : ∀ (j : Nat) t v, Tryz.f5.params[j]? = some t → args[j]? = some v → Value.okWide Tryz.prog W .any base t v)
    (hW : DataW.Whole enc Tryz.prog Tryz.f5.params.toList Rows.seglogSureSpec.vars false W args.toList ds gs before) (hL : laidMetH Tryz.prog Rows.seglogSureRow.laid W) :
    Calls Tryz.prog 5 args W fun e W' => ∃ v, e = .returned v ∧ Rows.seglogSureSpec.post enc Tryz.prog Tryz.f5 false true false false W args v W' := by
  have hW' := hW
  obtain ⟨p, q, hA0, hV, rfl, hfz, hnd⟩ := hW
  have hA : DataW.TrodAll enc Tryz.prog W 0 (fun _ => true) true Tryz.f5.params.toList args.toList ds p := hA0
  rw [Tryz.params5] at hA hval
  obtain ⟨v0, vs0, d0, ds0, p0, q0, hargs, rfl, rfl, h0, r0⟩ := trodAll_cons hA
  obtain ⟨v1, vs1, d1, ds1, p1, q1, rfl, rfl, rfl, h1, r1⟩ := trodAll_cons r0
  obtain ⟨v2, vs2, d2, ds2, p2, q2, rfl, rfl, rfl, h2, r2⟩ := trodAll_cons r1
  obtain ⟨v3, vs3, d3, ds3, p3, q3, rfl, rfl, rfl, h3, r3⟩ := trodAll_cons r2
  obtain ⟨v4, vs4, d4, ds4, p4, q4, rfl, rfl, rfl, h4, r4⟩ := trodAll_cons r3
  obtain ⟨v5, vs5, d5, ds5, p5, q5, rfl, rfl, rfl, h5, r5⟩ := trodAll_cons r4
  obtain ⟨rfl, rfl, rfl⟩ := trodAll_nil r5
  obtain rfl : args = #[v0, v1, v2, v3, v4, v5] := by cases args; simp_all
  obtain ⟨rfl, rfl⟩ := trodVars_none hV
  obtain ⟨a0, rfl, rfl, rfl, w0⟩ := open_int Tryz.underlying22 (hval 0 22 v0 rfl rfl) h0; obtain ⟨x0, rfl⟩ := u64_of15 w0
  obtain ⟨a1, rfl, rfl, rfl, w1⟩ := open_int Tryz.underlying3 (hval 1 3 v1 rfl rfl) h1
  obtain ⟨l2, m2, hm2, hr2, hi2⟩ := open_recs (hval 2 66 v2 rfl rfl) h2
  obtain ⟨l3, m3, hm3, hr3, hi3⟩ := open_recs (hval 3 66 v3 rfl rfl) h3
  obtain ⟨a4, rfl, rfl, rfl, w4⟩ := open_int Tryz.underlying3 (hval 4 3 v4 rfl rfl) h4
  obtain ⟨tl, htl, htr⟩ := open_iv15 (hval 5 42 v5 rfl rfl) h5
  refine (seglogSure_law x0 a1 v2 m2 v3 m3 a4 v5 tl W hr2 hi2 hr3 hi3 htl htr (table hL) (table2 hL)).mono fun e W' ⟨he, hg⟩ => ?_
  subst he
  exact ⟨_, rfl, Go.Tum.law_post kid1 kid2 kid3 kid4 rfl Tryz.underlying4 hW' rfl rfl hg⟩

def litC (d : DataW Unit) : Array Value := match d with
  | .agg ds => (ds.map fun x => match x with
    | .lit (.int k n) => Value.int k n
    | _ => .tuple #[]).toArray
  | _ => #[]
/-- A world for the witness: the settled one, the tables laid. -/
noncomputable def laidWorld (os : Os) : World :=
  let w0 := World.holding Tryz.prog os ⟨#[], #[], []⟩
  let put (h : Array Obj) (g : Nat) (cs : Array Value) : Array Obj := h.modify g fun
    | .cells _ t frozen => .cells cs t frozen
    | o => o
  { w0 with heap := put (put (put (put w0.heap 0 (litC Rows.laid_tumbrel_record_numbers)) 1 (litC Rows.laid_internal_strconv_uint64pow10)) 2 (litC Rows.laid_math_bits_deBruijn32tab)) 3 (litC Rows.laid_math_bits_deBruijn64tab) }
theorem laid_met (os : Os) : laidMet Tryz.prog Rows.seglogSureRow.laid ((laidWorld os).forCall (fun _ _ => 0) ⟨#[], #[.int .u64 0, .int .i64 0, .slice none 0 0, .slice none 0 0, .int .i64 0, .slice none 0 0], []⟩).memory :=
  laidMet_of_run3 10 (by kernel_rfl) (by kernel_rfl) (by kernel_rfl)
theorem reads (os : Os) {H : Type} (enc : TypeId × Value → H) : ∃ places, DataW.whole enc Tryz.prog ((laidWorld os).forCall (fun _ _ => 0) ⟨#[], #[.int .u64 0, .int .i64 0, .slice none 0 0, .slice none 0 0, .int .i64 0, .slice none 0 0], []⟩).memory Tryz.f5.params.toList Rows.seglogSureSpec.vars false #[Value.int .u64 0, Value.int .i64 0, Value.slice none 0 0, Value.slice none 0 0, Value.int .i64 0, Value.slice none 0 0].toList 8 = some ([.lit (.int .u64 0), .lit (.int .i64 0), .nil, .nil, .lit (.int .i64 0), .nil], [], places) :=
  ⟨[], by kernel_rfl⟩

set_option maxRecDepth 100000 in
theorem lifted (os : Os) (started : os.Started) (H : Type) (enc : TypeId × Value → H) (F : Stop.Interp) :
    ReturnsInHanded {} Tryz.checked os 5 .any ((OpenSpec.ofChange Rows.seglogSureSpec).preRow enc Tryz.prog Tryz.f5 Rows.seglogSureRow.domain false Rows.seglogSureRow.laid) (((OpenSpec.ofChange Rows.seglogSureSpec).at F).post enc Tryz.prog Tryz.f5 false true false false) := by
  obtain ⟨places, hx⟩ := reads os enc
  refine returnsInHanded_of_row (C := Tryz.checked) (s := OpenSpec.ofChange Rows.seglogSureSpec) own started (by kernel_rfl) Tryz.func5
    (witness_row_at (enc := enc) (C := Tryz.checked) false (laidWorld os) #[.int .u64 0, .int .i64 0, .slice none 0 0, .slice none 0 0, .int .i64 0, .slice none 0 0] rfl (by kernel_rfl) (by kernel_rfl) (by kernel_rfl)
      (OpenSpec.preRow_of_cond 8 hx (by kernel_rfl) (fun k hk => by cases hk) (by kernel_rfl) (laid_met os))) ?_
  intro W base args ds gs before hval hW _ _ _ hL _ _
  exact contract H enc W base args ds gs before hval hW hL

theorem said : Rows.SeglogSureSaid :=
  OpenClaim.holds_of_cond 5 Tryz.f5 rfl rfl rfl rfl rfl rfl rfl ⟨rfl, rfl, rfl, rfl, rfl⟩ rfl rfl rfl rfl rfl (by kernel_rfl) Tryz.func5 (by kernel_rfl)
    (of_decide_eq_true (by kernel_rfl)) (by unfold Func.isWrapper; first | (rw [if_pos (by decide +kernel)]; kernel_rfl) | (rw [if_neg (by decide +kernel)]; exact ⟨rfl, rfl⟩))
    (fun os started H enc _ F => by rw [OpenClaim.pre_eq_preRow]; exact lifted os started H enc F)

theorem plain (f : FuncId) (fn : Func) (hf : Tryz.pinned.checked.prog.funcNamed "tumbrel/tumbrellaw15.SeglogSure" = some f) (hfn : Tryz.pinned.checked.prog.funcs[f]? = some fn) :
    true = Tryz.pinned.checked.prog.looks [] ∧ ∀ (j : Nat) t, fn.params[j]? = some t → Tryz.pinned.checked.prog.wantsStandIn t = false := by
  obtain rfl : f = 5 := Option.some.inj ((show Tryz.prog.funcNamed "tumbrel/tumbrellaw15.SeglogSure" = some 5 by kernel_rfl).symm.trans hf) |>.symm
  obtain rfl : fn = Tryz.f5 := (Option.some.inj (Tryz.func5.symm.trans hfn)).symm
  refine ⟨by kernel_rfl, fun j t ht => ?_⟩
  rw [Tryz.params5] at ht
  have hm := Array.mem_of_getElem? ht
  have hall : ∀ t ∈ Tryz.f5.params.toList, Tryz.prog.wantsStandIn t = false := by decide +kernel
  rw [Tryz.params5] at hall
  exact hall t (by simpa using hm)

theorem proved : Rows.SeglogSureCardSaid :=
  Claim7.holds_tied_plain_at .later [] _ _ _ _ said (fun _ h => by cases h) (by kernel_rfl) (fun _ h => by cases h) seglogSure_row_tie rfl ⟨rfl, rfl⟩ (by kernel_rfl) rfl plain (by kernel_rfl)
end Go.Proofs.YtmbigiihcplcjaaGreatDoor.seglogSure

