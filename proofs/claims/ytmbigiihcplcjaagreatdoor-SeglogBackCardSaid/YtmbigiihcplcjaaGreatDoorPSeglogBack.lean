/- For every input the law SeglogBack returns true and leaves what was there as it was; and its card.
SeglogBack. -/
import Derived.Test.YtmbigiihcplcjaaGreatDoorSegMH
import Derived.Test.YtmbigiihcplcjaaGreatDoorNamMD
import Derived.Test.YtmbigiihcplcjaaGreatDoorCards
import Derived.Test.YtmbigiihcplcjaaGreatDoorTie
import Derived.WalkKit
import Derived.ProofKit
import Derived.OpenShut
import Derived.Below
import Derived.Deep.DeepHandedRow
import Derived.Lib.LaidTab
import Derived.Lib.LaidU8
import Derived.Deep.DeepLaidRun
import Derived.ShutString
import Derived.Test.YtmbigiihcplcjaaGreatDoorFrame
import Derived.Lib.SmallJoins
import Derived.Test.YtmbigiihcplcjaaGreatDoorRecMT
set_option linter.unusedSimpArgs false
set_option linter.unusedVariables false
set_option maxRecDepth 100000
namespace Go.Proofs.YtmbigiihcplcjaaGreatDoor
open Go Go.RowKit Go.Tum Go.ChangeMaps Go.Tum.Crc Go.Nam

theorem nums_all {l : List Nm} (h : ∀ s ∈ l, ∃ n, n < 10000000000 ∧ s = segN n) : (numsL 109 l).length = l.length := by
  unfold numsL
  induction l with
  | nil => rfl
  | cons s r ih =>
    obtain ⟨n, hn, rfl⟩ := h s (by simp)
    have e : ofKind 109 (segN n) = some (UInt64.ofNat n) := by
      unfold ofKind
      rw [read_name (by decide) hn]
      simp
    rw [List.filterMap_cons, e]
    simp [ih fun s hs => h s (by simp [hs])]
theorem look_any15 {y : Nm} {b : Nat} : ∀ {d : Dir}, (y, b) ∈ d → look d y ≠ none
  | [], h => by simp at h
  | (z, c) :: r, h => by
    unfold look
    by_cases e : z = y
    · subst e; simp
    · have : (y, b) ∈ r := by
        rcases List.mem_cons.1 h with q | q
        · cases q; exact absurd rfl e
        · exact q
      simp [e]
      exact fun _ => ⟨b, this⟩
theorem fs_names (R a : Nat) (L : List (List UInt8)) (h : a + L.length ≤ 10000000000) : (numsL 109 ((fsS R a L).dir.map Prod.fst)).length = L.length ∧ ((fsS R a L).dir.map Prod.fst).length = L.length ∧ ∀ s ∈ (fsS R a L).dir.map Prod.fst, s.length ≤ 1048576 := by
  have hd := fs_dir a L.length h
  have hk : ∀ s ∈ (fsS R a L).dir.map Prod.fst, ∃ n, n < 10000000000 ∧ s = segN n := fun s hs => by
    obtain ⟨q, hq, rfl⟩ := List.mem_map.1 hs
    by_cases e : ∀ i, i < L.length → q.1 ≠ segN (a + i)
    · exact absurd (hd.no q.1 e) (look_any15 (b := q.2) hq)
    · simp only [Classical.not_forall, Decidable.not_not] at e
      obtain ⟨i, hi, e⟩ := e
      exact ⟨a + i, by omega, e⟩
  have hl : ((fsS R a L).dir.map Prod.fst).length = L.length := by rw [List.length_map]; exact hd.ln
  refine ⟨by rw [nums_all hk, hl], hl, fun s hs => ?_⟩
  obtain ⟨n, hn, rfl⟩ := hk s hs
  have := (segN_len hn).1
  omega
theorem stepP_some {most : Int} {st st' : Nat × Nat} {p : Plc} (h : stepP most st p = some st') :
    (p.seg.toNat = st.1 + 1 ∧ p.at'.toNat = 0 ∧ st' = (p.seg.toNat, 1)) ∨
    (¬ (p.seg.toNat = st.1 + 1 ∧ p.at'.toNat = 0) ∧ p.seg.toNat = st.1 ∧ (st.2 = 0 ↔ p.at'.toNat = 0) ∧ ¬ (0 < st.2 ∧ most < (p.at'.toNat + (recB p.r).length : Nat)) ∧ st' = (st.1, st.2 + 1)) := by
  unfold stepP at h
  by_cases ht : p.seg.toNat = st.1 + 1 ∧ p.at'.toNat = 0
  · left
    simp only [if_pos ht] at h
    split at h
    · cases h; exact ⟨ht.1, ht.2, rfl⟩
    · cases h
  · right
    simp only [if_neg ht] at h
    split at h
    · rename_i hc
      cases h
      exact ⟨ht, hc.1, hc.2.1, hc.2.2, rfl⟩
    · cases h
set_option maxHeartbeats 4000000 in
theorem seglogBack_law (seg : UInt64) (size : Int) (v : Value) (m : List (Rc × Value)) (w : World) (hr : RowsOf w 3 v rcells m) (hi : ∀ q ∈ m, Vec uv w q.2 q.1.n) (hp : Pw w) (ht : Tab w) :
    Calls Tryz.prog 4 #[uv seg, .int .i64 size, v] w fun e w' => e = .returned (.bool true) ∧ Ext w w' := by
  have HR := hid hr
  have HI := hid hi
  have HP := hid hp
  have HT := hid ht
  obtain ⟨vo0, vc0, rfl, -⟩ := hr.open
  have HCA := hid (awake15_any w ht hp)
  clear hr hi hp ht
  go_enter Tryz.func4, Tryz.ntmps4
  go_wp2_with fail
  refine HCA.out.mono ?_
  rintro e w1 ⟨rfl, hx⟩
  have HE1 := hid hx
  have HCF := hid (full_any seg size _ m (HR.out.ext hx) (fun q hq => (HI.out q hq).ext hx) (Pw.ext15 HP.out hx) (HT.out.ext hx))
  clear hx HCA
  go_wp2_with fail
  refine HCF.out.mono ?_
  rintro e w2 hfr
  rcases hfr with ⟨rfl, hx⟩ | ⟨p, b, x, g, D, c, ps, po, pc, rfl, l2, fo, pl, sep, pv0, hx⟩
  · have HE2 := hid (HE1.out.trans hx)
    clear hx HCF
    go_wp2
    go_returns
    exact ⟨rfl, HE2.out⟩
  have HX2 := hid (HE1.out.trans hx)
  have hsl : seg.toNat + (D ++ [c]).length ≤ 10000000000 := by
    have h1 := fo.sg
    have h2 := fo.dl
    have h3 := fo.ln
    rw [List.length_append, List.length_singleton]
    omega
  have HCT := hid (there_any (.slice po ps.length pc) ps l2 pl.pls (fun q hq => ⟨(fo.ok.pl q.1 (List.mem_map_of_mem hq)).1, (fo.ok.pl q.1 (List.mem_map_of_mem hq)).rd hsl (fs_rds _ _ _ hsl)⟩) (Pw.ext15 HP.out HX2.out) (HT.out.ext HX2.out))
  have L2 := hid l2
  have FO := hid fo
  have PL := hid pl.pls
  have HSL := hid hsl
  clear hx HCF l2 fo pl sep pv0 hsl
  go_wp2_with fail
  refine HCT.out.mono ?_
  rintro e w3 ⟨rfl, hx⟩
  have HX3 := hid (HX2.out.trans hx)
  have L3 := hid (L2.out.ext hx)
  have PL3 := hid (PL.out.ext hx)
  clear hx HCT L2 PL
  obtain ⟨ao2, cap2, he2, hle, hmx, hnn, hcell⟩ := PL3.out.1.open
  obtain ⟨rfl, rfl⟩ : po = ao2 ∧ pc = cap2 := by cases he2; exact ⟨rfl, rfl⟩
  have HC := hid hcell
  have HNN := hid hnn
  have HV := hid PL3.out.2
  clear he2 hcell hnn
  obtain ⟨nf, hnf, -⟩ := FO.out.ok.ck
  have HCK : Hid (chkP size ((ps.map Prod.fst).drop 0) (seg.toNat, 0) = some (seg.toNat + D.length, nf)) := hid hnf
  have HLN : Hid (ps.length ≤ 50 ∧ D.length ≤ 50 ∧ seg.toNat ≤ 1000) := hid ⟨FO.out.ln, by have := FO.out.dl; have := FO.out.ln; omega, FO.out.sg⟩
  clear hnf
  go_wp2_with fail
  go_loopw [11, 12, 39] (fun lv mv iv wr => ∃ (k : Nat) (last : UInt64) (many : Nat), k ≤ ps.length ∧ many ≤ k ∧ lv = uv last ∧ mv = .int .i64 (many : Int) ∧ iv = .int .i64 (k : Int) ∧ Hid (last.toNat ≤ 1000 + k) ∧ Hid (chkP size ((ps.map Prod.fst).drop k) (last.toNat, many) = some (seg.toNat + D.length, nf)) ∧ Hid (Ext w3 wr)) (fun _ _ iv _ => ps.length - (intOf iv).toNat)
  case atStart => exact ⟨0, seg, 0, Nat.zero_le _, Nat.le_refl _, rfl, rfl, rfl, hid (by have := HLN.out.2.2; omega), HCK, hid (Ext.refl _)⟩
  case round =>
    clear HCK
    obtain ⟨k, last, many, hk, hmk, rfl, rfl, rfl, HLA, HCK, HE⟩ := hrel
    by_cases hlt : k < ps.length
    · have hkj : decide ((k : Int) < (ps.length : Int)) = true := by simp; omega
      obtain ⟨a, rfl⟩ := HNN.out (by omega)
      have hc0 := HE.out.cell (HC.out a rfl k hlt 0 _ rfl)
      have hc1 := HE.out.cell (HC.out a rfl k hlt 1 _ rfl)
      have hc2 := HE.out.cell (HC.out a rfl k hlt 2 _ rfl)
      have hc3 := HE.out.cell (HC.out a rfl k hlt 3 _ rfl)
      have hc4 := HE.out.cell (HC.out a rfl k hlt 4 _ rfl)
      have hvk := HV.out ps[k] (List.getElem_mem hlt)
      have hrk := (FO.out.ok.pl ps[k].1 (List.mem_map_of_mem (List.getElem_mem hlt))).1
      have hck := HCK.out
      rw [List.drop_eq_getElem_cons (by simpa using hlt), List.getElem_map] at hck
      obtain ⟨q, hq⟩ : ∃ q, ps[k] = q := ⟨_, rfl⟩
      rw [hq] at hc0 hc1 hc2 hc3 hc4 hvk hrk hck
      obtain ⟨⟨⟨kind, rn, text⟩, seg2, at2⟩, u⟩ := q
      dsimp only at hc0 hc1 hc2 hc3 hc4 hvk hrk hck
      obtain ⟨uo, uc, rfl, -⟩ := hvk.open
      obtain ⟨un, hun⟩ : ∃ n, rn.length = n := ⟨_, rfl⟩
      rw [hun] at hc1 hvk
      have hst : ∃ st', stepP size (last.toNat, many) ⟨⟨kind, rn, text⟩, seg2, at2⟩ = some st' ∧ chkP size ((ps.map Prod.fst).drop (k + 1)) st' = some (seg.toNat + D.length, nf) := by
        have hck2 : (stepP size (last.toNat, many) ⟨⟨kind, rn, text⟩, seg2, at2⟩).bind (chkP size ((ps.map Prod.fst).drop (k + 1))) = some (seg.toNat + D.length, nf) := hck
        cases hs : stepP size (last.toNat, many) ⟨⟨kind, rn, text⟩, seg2, at2⟩ with
        | none => rw [hs] at hck2; cases hck2
        | some st' => rw [hs] at hck2; exact ⟨st', rfl, hck2⟩
      have HST := hid hst
      have HVK := hid hvk
      have HRK := hid hrk
      have HLT := hid hlt
      have hlen := recB_len hrk
      have HLEN := hid hlen
      have k0 := cell_first hc0
      have k1 := cell_next hc1 (by decide)
      have k2 := cell_next hc2 (by decide)
      have k3 := cell_next hc3 (by decide)
      have k4 := cell_next hc4 (by decide)
      clear hq hc0 hc1 hc2 hc3 hc4 hvk hrk hck hun hlt hst hlen
      obtain ⟨W1, hW1⟩ : ∃ W, wr.alloc (.cells #[.int .i64 kind, .slice uo un uc, .string (str text), uv seg2, uv at2] 72 (0, 0)) = W := ⟨_, rfl⟩
      have hE1 := Ext.alloc wr (.cells #[.int .i64 kind, .slice uo un uc, .string (str text), uv seg2, uv at2] 72 (0, 0))
      have hb1 := heap_alloc_new wr (.cells #[.int .i64 kind, .slice uo un uc, .string (str text), uv seg2, uv at2] 72 (0, 0))
      rw [hW1] at hE1 hb1
      have HE4 := hid (HE.out.trans hE1)
      have HB4 := hid hb1
      obtain ⟨d0, d1, d2, d3, d4, df⟩ := blk5' hb1
      clear hE1 hb1
      have hcb := bytes5_any ⟨kind, rn, text⟩ (.slice uo un uc) W1 (HVK.out.ext HE4.out) (HT.out.ext (HX3.out.trans HE4.out))
      rw [recBytes_ok HRK.out] at hcb
      have HCB := hid hcb
      clear hcb
      go_wp2_with fail
      try rw [hW1]
      clear hW1 d0 d1 d2 d3 d4 df k0 k1 k2 k3 k4
      refine HCB.out.mono ?_
      rintro e w5 ⟨y, rfl, hy, hx⟩
      dsimp only at hy ⊢
      obtain ⟨yo, yc, rfl⟩ := row_shape hy
      obtain ⟨n, hn⟩ : ∃ n, (recB (⟨kind, rn, text⟩ : Rc)).length = n := ⟨_, rfl⟩
      rw [hn]
      have HN := hid hn
      have HE5 := hid (HE4.out.trans hx)
      obtain ⟨d0, d1, d2, d3, d4, df⟩ := blk5' (hx.obj HB4.out)
      clear hy hx HCB hn HE4 HB4
      obtain ⟨L1, hL1⟩ : ∃ L1, L1 = last.toNat + 1 := ⟨_, rfl⟩
      have hwl : IntKind.u64.wrap ((last.toNat : Int) + 1) = (L1 : Int) := by rw [IntKind.wrap_u64]; have := HLA.out; have := HLT.out; have := HLN.out.1; omega
      have hwm : IntKind.i64.wrap ((many : Int) + 1) = ((many + 1 : Nat) : Int) := i64v _ (by omega) (by have := HLN.out.1; omega)
      obtain ⟨st', hst1, hst2⟩ := HST.out
      have HST2 := hid hst2
      have hss := stepP_some hst1
      dsimp only at hss
      clear hst1 hst2 HST
      rcases hss with ⟨s1, s2, rfl⟩ | ⟨s0, s1, s2, s3, rfl⟩
      · have hb1 : ((seg2.toNat : Int) == (L1 : Int)) = true := by simp; omega
        have hb2 : ((at2.toNat : Int) == 0) = true := by simp; omega
        have hne : ((seg2.toNat : Int) != (seg2.toNat : Int)) = false := by simp
        have HS2 : Hid (seg2.toNat ≤ 1000 + (k + 1)) := hid (by have := HLA.out; omega)
        clear s1 s2 hL1
        go_wp2
        go_roundw
        case rel => exact ⟨k + 1, seg2, 1, HLT.out, by omega, rfl, by first | rfl | go_num, by go_num, HS2, HST2, HE5⟩
        case measure => have := HLT.out; simp [intOf]; omega
      · have hb1 : ((seg2.toNat : Int) == (L1 : Int)) = false := by rw [beq_eq_false_iff_ne]; intro e; omega
        have hne : ((seg2.toNat : Int) != (last.toNat : Int)) = false := by simp; omega
        have HS2 : Hid (last.toNat ≤ 1000 + (k + 1)) := hid (by have := HLA.out; omega)
        rcases Nat.eq_zero_or_pos many with rfl | hmp
        · have hb2 : ((at2.toNat : Int) == 0) = true := by have := s2.1 rfl; simp; omega
          clear s0 s1 s2 s3 hL1
          go_wp2
          go_roundw
          case rel => exact ⟨k + 1, last, 1, HLT.out, by omega, rfl, by first | rfl | go_num, by go_num, HS2, HST2, HE5⟩
          case measure => have := HLT.out; simp [intOf]; omega
        · have hb2 : ((at2.toNat : Int) == 0) = false := by
            rw [beq_eq_false_iff_ne]; intro e
            have := s2.2 (by omega)
            omega
          have hb3 : ((many : Int) == 0) = false := by rw [beq_eq_false_iff_ne]; omega
          have hb4 : decide ((0 : Int) < (many : Int)) = true := by simp; omega
          have hmy := FO.out.my
          unfold mayB at hmy
          simp only [Bool.and_eq_true, decide_eq_true_eq] at hmy
          have hsz : ((at2.toNat + n : Nat) : Int) ≤ size := by
            rw [← HN.out]
            have := s3
            omega
          obtain ⟨S, hS⟩ : ∃ S, S = at2.toNat + n := ⟨_, rfl⟩
          have hwa : IntKind.i64.wrap (at2.toNat : Int) = (at2.toNat : Int) := i64v _ rfl (by omega)
          have hws : IntKind.i64.wrap ((at2.toNat : Int) + (n : Int)) = (S : Int) := i64v _ (by omega) (by omega)
          have hgt : decide (size < (S : Int)) = false := by simp; omega
          clear s0 s1 s2 s3 hL1 hmy hsz hS
          go_wp2
          go_roundw
          case rel => exact ⟨k + 1, last, many + 1, HLT.out, by omega, rfl, by first | rfl | go_num, by go_num, HS2, HST2, HE5⟩
          case measure => have := HLT.out; simp [intOf]; omega
    · have hkf : decide ((k : Int) < (ps.length : Int)) = false := by simp; omega
      have hkf2 : (k < ps.length) = False := by simp; omega
      have hla : last.toNat = seg.toNat + D.length := by
        have h := HCK.out
        rw [List.drop_eq_nil_of_le (by simp; omega)] at h
        have h2 : some (last.toNat, many) = some (seg.toNat + D.length, nf) := h
        exact (Prod.mk.inj (Option.some.inj h2)).1
      have HLAST := hid hla
      have HXF := hid (HX3.out.trans HE.out)
      have L4 := hid (L3.out.ext HE.out)
      have HCE := hid (send_any L4.out)
      clear hla hlt hk
      go_wp2_with fail
      refine HCE.out.mono ?_
      rintro e w5 ⟨rfl, hx⟩
      have HX5 := hid (HXF.out.trans hx)
      have L5 := hid (L4.out.ext hx)
      have HCN := hid (dNames_any L5.out.dk)
      have hle2 : ((g.seg.toNat : Int) == (last.toNat : Int)) = true := by have := FO.out.gf.sg; have := HLAST.out; simp; omega
      clear hx HCE L4
      go_wp2_with fail
      refine HCN.out.mono ?_
      rintro e w6 ⟨⟨nv, rfl, ho⟩, hx⟩
      have HX6 := hid (HX5.out.trans hx)
      have hfn := fs_names 131072 seg.toNat (D ++ [c]) HSL.out
      have hco := only_any nv _ 109 w6 ho.vec hfn.2.2 (by rw [hfn.2.1]; have := HLN.out.2.1; simp; omega)
      have hml : ((numsL 109 ((fsS 131072 seg.toNat (D ++ [c])).dir.map Prod.fst)).mergeSort leU).length = D.length + 1 := by rw [List.length_mergeSort, hfn.1]; simp
      obtain ⟨M, hM⟩ : ∃ M, (numsL 109 ((fsS 131072 seg.toNat (D ++ [c])).dir.map Prod.fst)).mergeSort leU = M := ⟨_, rfl⟩
      rw [hM] at hco hml
      have HCO := hid hco
      have HML := hid hml
      clear hx ho hfn hco hml hM HCN
      go_wp2_with fail
      refine HCO.out.mono ?_
      rintro e w7 ⟨⟨u7, rfl, ho⟩, hx⟩
      obtain ⟨uo, uc, rfl⟩ := ho.shape
      have HX7 := hid (HX6.out.trans hx)
      obtain ⟨N, hN⟩ : ∃ N, M.length = N := ⟨_, rfl⟩
      have HN := hid hN
      rw [hN]
      obtain ⟨dl, hdl⟩ : ∃ dl, dl = D.length := ⟨_, rfl⟩
      obtain ⟨dl1, hdl1⟩ : ∃ dl1, dl1 = dl + 1 := ⟨_, rfl⟩
      have hb := HLN.out.2.1
      have hwd : IntKind.u64.wrap ((last.toNat : Int) - (seg.toNat : Int)) = (dl : Int) := by rw [IntKind.wrap_u64]; have := HLAST.out; omega
      have hwd2 : IntKind.i64.wrap (dl : Int) = (dl : Int) := i64v _ rfl (by omega)
      have hwd3 : IntKind.i64.wrap ((dl : Int) + 1) = (dl1 : Int) := i64v _ (by omega) (by omega)
      have hee : ((N : Int) == (dl1 : Int)) = true := by have := HML.out; simp; omega
      clear hx ho hN hdl hdl1 hb HCO
      go_wp2
      go_returns
      exact ⟨by first | rfl | simp, HX7.out⟩
end Go.Proofs.YtmbigiihcplcjaaGreatDoor

namespace Go.Proofs.YtmbigiihcplcjaaGreatDoor.seglogBack
open Go.ChangeShapes Go.WideShapes Go.ChangeAt Go.RowKit
open Go.ChangeMaps (open_string shut_string)
set_option linter.unusedVariables false
set_option maxRecDepth 100000

theorem own : ownKnob Tryz.prog.godebug = none := by kernel_rfl
theorem kid1 : laidOutB Tryz.prog = true := by kernel_rfl
theorem kid2 : mapsRowed Tryz.prog = true := by kernel_rfl
theorem kid3 : ((List.range Tryz.prog.types.size).all fun t => match Tryz.prog.underlying t with | some (.slice e) => decide (0 < Tryz.prog.cellsOf e) | _ => true) = true := by kernel_rfl
theorem kid4 : ∀ t ∈ Tryz.f4.params.toList, t < Tryz.prog.types.size := by decide +kernel
theorem gTab : Tryz.prog.globalNamed "internal/strconv.uint64pow10" = some 1 := by kernel_rfl
theorem gTabType : (Tryz.prog.globals[1]?).map (·.type) = some 219 := by kernel_rfl
theorem cellsT : Tryz.prog.cellsOf 219 = 20 := by kernel_rfl
theorem cellsE : Tryz.prog.cellsOf 22 = 1 := by kernel_rfl
theorem powIs : (Rows.laid_internal_strconv_uint64pow10 : DataW Unit) = Lib.tabData .u64 Lib.pow10Tab := by kernel_rfl
theorem table {W : World} (h : laidMetH Tryz.prog Rows.seglogBackRow.laid W) : Pw W := by
  have h' : laidMet Tryz.prog Rows.seglogBackRow.laid W := h
  have hr := Lib.laidMet.reads h' (n := "internal/strconv.uint64pow10") (d := Rows.laid_internal_strconv_uint64pow10) (.tail _ (.tail _ (.head _)))
  rw [powIs] at hr
  obtain ⟨g', t', cs, fuel, p, hg', ht', hvar, hd⟩ := hr
  obtain rfl := Option.some.inj (gTab.symm.trans hg')
  obtain rfl := Option.some.inj (gTabType.symm.trans ht')
  show Lib.TabIs _ _ _ _ _
  unfold Lib.TabIs
  rw [hvar, ← Lib.cells_of_tab Tryz.underlying219 Tryz.underlying22 cellsE cellsT hd]
theorem gTab2 : Tryz.prog.globalNamed "tumbrel/record.numbers" = some 0 := by kernel_rfl
theorem gTabType2 : (Tryz.prog.globals[0]?).map (·.type) = some 145 := by kernel_rfl
theorem cellsT2 : Tryz.prog.cellsOf 145 = 18 := by kernel_rfl
theorem cellsE2 : Tryz.prog.cellsOf 3 = 1 := by kernel_rfl
theorem numIs : (Rows.laid_tumbrel_record_numbers : DataW Unit) = Lib.tabData .i64 tabZ := by kernel_rfl
theorem table2 {W : World} (h : laidMetH Tryz.prog Rows.seglogBackRow.laid W) : Tab W := by
  have h' : laidMet Tryz.prog Rows.seglogBackRow.laid W := h
  have hr := Lib.laidMet.reads h' (n := "tumbrel/record.numbers") (d := Rows.laid_tumbrel_record_numbers) (.tail _ (.tail _ (.tail _ (.head _))))
  rw [numIs] at hr
  obtain ⟨g', t', cs, fuel, p, hg', ht', hvar, hd⟩ := hr
  obtain rfl := Option.some.inj (gTab2.symm.trans hg')
  obtain rfl := Option.some.inj (gTabType2.symm.trans ht')
  have ht : Lib.TabIs Tryz.prog W "tumbrel/record.numbers" .i64 tabZ := by
    unfold Lib.TabIs
    rw [hvar, ← Lib.cells_of_tab Tryz.underlying145 Tryz.underlying3 cellsE2 cellsT2 hd]
  intro i hi
  rw [← tabZ_at ⟨i, hi⟩]
  exact ht.cell gTab2 i hi

set_option maxRecDepth 100000 in
theorem contract (H : Type) (enc : TypeId × Value → H) (W : World) (base : Nat) (args : Array Value) (ds gs : List (DataW H)) (before : List MemPlace)
    (hval : ∀ (j : Nat) t v, Tryz.f4.params[j]? = some t → args[j]? = some v → Value.okWide Tryz.prog W .any base t v)
    (hW : DataW.Whole enc Tryz.prog Tryz.f4.params.toList Rows.seglogBackSpec.vars false W args.toList ds gs before) (hL : laidMetH Tryz.prog Rows.seglogBackRow.laid W) :
    Calls Tryz.prog 4 args W fun e W' => ∃ v, e = .returned v ∧ Rows.seglogBackSpec.post enc Tryz.prog Tryz.f4 false true false false W args v W' := by
  have hW' := hW
  obtain ⟨p, q, hA0, hV, rfl, hfz, hnd⟩ := hW
  have hA : DataW.TrodAll enc Tryz.prog W 0 (fun _ => true) true Tryz.f4.params.toList args.toList ds p := hA0
  rw [Tryz.params4] at hA hval
  obtain ⟨v0, vs0, d0, ds0, p0, q0, hargs, rfl, rfl, h0, r0⟩ := trodAll_cons hA
  obtain ⟨v1, vs1, d1, ds1, p1, q1, rfl, rfl, rfl, h1, r1⟩ := trodAll_cons r0
  obtain ⟨v2, vs2, d2, ds2, p2, q2, rfl, rfl, rfl, h2, r2⟩ := trodAll_cons r1
  obtain ⟨rfl, rfl, rfl⟩ := trodAll_nil r2
  obtain rfl : args = #[v0, v1, v2] := by cases args; simp_all
  obtain ⟨rfl, rfl⟩ := trodVars_none hV
  obtain ⟨a0, rfl, rfl, rfl, w0⟩ := open_int Tryz.underlying22 (hval 0 22 v0 rfl rfl) h0; obtain ⟨x0, rfl⟩ := u64_of15 w0
  obtain ⟨a1, rfl, rfl, rfl, w1⟩ := open_int Tryz.underlying3 (hval 1 3 v1 rfl rfl) h1
  obtain ⟨l2, m2, hm2, hr2, hi2⟩ := open_recs (hval 2 66 v2 rfl rfl) h2
  refine (seglogBack_law x0 a1 v2 m2 W hr2 hi2 (table hL) (table2 hL)).mono fun e W' ⟨he, hg⟩ => ?_
  subst he
  exact ⟨_, rfl, Go.Tum.law_post kid1 kid2 kid3 kid4 rfl Tryz.underlying4 hW' rfl rfl hg⟩

def litC (d : DataW Unit) : Array Value := match d with
  | .agg ds => (ds.map fun x => match x with
    | .lit (.int k n) => Value.int k n
    | _ => .tuple #[]).toArray
  | _ => #[]
/-- A world for the witness: the settled one, the tables laid. -/
noncomputable def laidWorld (os : Os) : World :=
  let w0 := World.holding Tryz.prog os ⟨#[], #[], []⟩
  let put (h : Array Obj) (g : Nat) (cs : Array Value) : Array Obj := h.modify g fun
    | .cells _ t frozen => .cells cs t frozen
    | o => o
  { w0 with heap := put (put (put (put w0.heap 0 (litC Rows.laid_tumbrel_record_numbers)) 1 (litC Rows.laid_internal_strconv_uint64pow10)) 2 (litC Rows.laid_math_bits_deBruijn32tab)) 3 (litC Rows.laid_math_bits_deBruijn64tab) }
theorem laid_met (os : Os) : laidMet Tryz.prog Rows.seglogBackRow.laid ((laidWorld os).forCall (fun _ _ => 0) ⟨#[], #[.int .u64 0, .int .i64 0, .slice none 0 0], []⟩).memory :=
  laidMet_of_run3 10 (by kernel_rfl) (by kernel_rfl) (by kernel_rfl)
theorem reads (os : Os) {H : Type} (enc : TypeId × Value → H) : ∃ places, DataW.whole enc Tryz.prog ((laidWorld os).forCall (fun _ _ => 0) ⟨#[], #[.int .u64 0, .int .i64 0, .slice none 0 0], []⟩).memory Tryz.f4.params.toList Rows.seglogBackSpec.vars false #[Value.int .u64 0, Value.int .i64 0, Value.slice none 0 0].toList 8 = some ([.lit (.int .u64 0), .lit (.int .i64 0), .nil], [], places) :=
  ⟨[], by kernel_rfl⟩

set_option maxRecDepth 100000 in
theorem lifted (os : Os) (started : os.Started) (H : Type) (enc : TypeId × Value → H) (F : Stop.Interp) :
    ReturnsInHanded {} Tryz.checked os 4 .any ((OpenSpec.ofChange Rows.seglogBackSpec).preRow enc Tryz.prog Tryz.f4 Rows.seglogBackRow.domain false Rows.seglogBackRow.laid) (((OpenSpec.ofChange Rows.seglogBackSpec).at F).post enc Tryz.prog Tryz.f4 false true false false) := by
  obtain ⟨places, hx⟩ := reads os enc
  refine returnsInHanded_of_row (C := Tryz.checked) (s := OpenSpec.ofChange Rows.seglogBackSpec) own started (by kernel_rfl) Tryz.func4
    (witness_row_at (enc := enc) (C := Tryz.checked) false (laidWorld os) #[.int .u64 0, .int .i64 0, .slice none 0 0] rfl (by kernel_rfl) (by kernel_rfl) (by kernel_rfl)
      (OpenSpec.preRow_of_cond 8 hx (by kernel_rfl) (fun k hk => by cases hk) (by kernel_rfl) (laid_met os))) ?_
  intro W base args ds gs before hval hW _ _ _ hL _ _
  exact contract H enc W base args ds gs before hval hW hL

theorem said : Rows.SeglogBackSaid :=
  OpenClaim.holds_of_cond 4 Tryz.f4 rfl rfl rfl rfl rfl rfl rfl ⟨rfl, rfl, rfl, rfl, rfl⟩ rfl rfl rfl rfl rfl (by kernel_rfl) Tryz.func4 (by kernel_rfl)
    (of_decide_eq_true (by kernel_rfl)) (by unfold Func.isWrapper; first | (rw [if_pos (by decide +kernel)]; kernel_rfl) | (rw [if_neg (by decide +kernel)]; exact ⟨rfl, rfl⟩))
    (fun os started H enc _ F => by rw [OpenClaim.pre_eq_preRow]; exact lifted os started H enc F)

theorem plain (f : FuncId) (fn : Func) (hf : Tryz.pinned.checked.prog.funcNamed "tumbrel/tumbrellaw15.SeglogBack" = some f) (hfn : Tryz.pinned.checked.prog.funcs[f]? = some fn) :
    true = Tryz.pinned.checked.prog.looks [] ∧ ∀ (j : Nat) t, fn.params[j]? = some t → Tryz.pinned.checked.prog.wantsStandIn t = false := by
  obtain rfl : f = 4 := Option.some.inj ((show Tryz.prog.funcNamed "tumbrel/tumbrellaw15.SeglogBack" = some 4 by kernel_rfl).symm.trans hf) |>.symm
  obtain rfl : fn = Tryz.f4 := (Option.some.inj (Tryz.func4.symm.trans hfn)).symm
  refine ⟨by kernel_rfl, fun j t ht => ?_⟩
  rw [Tryz.params4] at ht
  have hm := Array.mem_of_getElem? ht
  have hall : ∀ t ∈ Tryz.f4.params.toList, Tryz.prog.wantsStandIn t = false := by decide +kernel
  rw [Tryz.params4] at hall
  exact hall t (by simpa using hm)

theorem proved : Rows.SeglogBackCardSaid :=
  Claim7.holds_tied_plain_at .later [] _ _ _ _ said (fun _ h => by cases h) (by kernel_rfl) (fun _ h => by cases h) seglogBack_row_tie rfl ⟨rfl, rfl⟩ (by kernel_rfl) rfl plain (by kernel_rfl)
end Go.Proofs.YtmbigiihcplcjaaGreatDoor.seglogBack

