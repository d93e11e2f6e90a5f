/- Load. -/
import Derived.Test.YtpbmbjdiilnaeaaDoorSnpMA
import Derived.Laws.Rows
import Derived.Laws.Tables
set_option linter.unusedSimpArgs false
set_option linter.unusedVariables false
set_option maxRecDepth 100000
namespace Go.Proofs.YtpbmbjdiilnaeaaDoor
open Go Go.RowKit Go.Tum Go.ChangeMaps Go.Sort Go.Tum.Vint Go.Tum.Crc
open Go.ParB (upd Lof)
open Go.ParE (putS slotsR slots Closed)

/-- A box made and stored. -/
def LdBoxQ (W : World) (d : Nat) (C Z : Array Value) (i : Nat) (σ : Nat → Value) (w' : World) : Prop := match i with
  | 0 => Ext W w'
  | 1 => Ext W w' ∧ ∃ q, σ d = pv q ∧ W.heap.size ≤ q ∧ w'.heap[q]? = some (.cells Z 29 (0, 0))
  | _ => Ext W w' ∧ ∃ q, σ d = pv q ∧ W.heap.size ≤ q ∧ w'.heap[q]? = some (.cells C 29 (0, 0))
/-- A slice of one made, appended, stored. -/
def LdApQ (W : World) (d0 d1 kk : Nat) (one : List Value) (B T N : Nat) (v : Value) (xs : List Value) (P : World → Prop) (i : Nat) (σ : Nat → Value) (w' : World) : Prop := match i with
  | 0 => Ext W w'
  | 1 => Ext W w' ∧ Sl w' kk (σ d0) 1 one
  | 2 => ∃ W2, Ext W W2 ∧ (∃ ao cap, σ d1 = .slice ao N cap) ∧ w'.ownsRow B T kk (σ d1) N xs ∧ W2.grownBy w' v.ownBlock ∧ Below B W2 w'
  | _ => P w'
/-- .. behind a call. -/
def LdCaQ (W : World) (d d0 d1 kk : Nat) (a : Value) (one : List Value) (B T N : Nat) (v : Value) (xs : List Value) (P : World → Prop) (i : Nat) (σ : Nat → Value) (w' : World) : Prop := match i with
  | 0 => Ext W w'
  | 1 => Ext W w' ∧ σ d = a
  | 2 => Ext W w' ∧ Sl w' kk (σ d0) 1 one
  | 3 => ∃ W2, Ext W W2 ∧ (∃ ao cap, σ d1 = .slice ao N cap) ∧ w'.ownsRow B T kk (σ d1) N xs ∧ W2.grownBy w' v.ownBlock ∧ Below B W2 w'
  | _ => P w'
theorem LdBoxQ.ext {W : World} {d : Nat} {C Z : Array Value} {i : Nat} {σ : Nat → Value} {w' : World} (h : LdBoxQ W d C Z i σ w') : Ext W w' := by
  match i, h with
  | 0, h => exact h
  | 1, h => exact h.1
  | _ + 2, h => exact h.1
theorem LdApQ.ext {W : World} {d0 d1 kk : Nat} {one : List Value} {B T N : Nat} {v : Value} {xs : List Value} {P : World → Prop} {i : Nat} {σ : Nat → Value} {w' : World} (h : LdApQ W d0 d1 kk one B T N v xs P i σ w') (hi : i ≤ 1) : Ext W w' := by
  match i, h, hi with
  | 0, h, _ => exact h
  | 1, h, _ => exact h.1
theorem LdCaQ.ext {W : World} {d d0 d1 kk : Nat} {a : Value} {one : List Value} {B T N : Nat} {v : Value} {xs : List Value} {P : World → Prop} {i : Nat} {σ : Nat → Value} {w' : World} (h : LdCaQ W d d0 d1 kk a one B T N v xs P i σ w') (hi : i ≤ 2) : Ext W w' := by
  match i, h, hi with
  | 0, h, _ => exact h
  | 1, h, _ => exact h.1
  | 2, h, _ => exact h.1
def LdSm (l : List Rc) (s : Snp) (R : Bool) : Prop := loadR l = if R = true then some s else none
theorem setRow_frS (w : World) (b : Nat) (cs : Array Value) : Fr [b] w (w.setRow b cs) := ⟨rfl, rfl, rfl, Nat.le_of_eq (setRow_size w b cs).symm, fun j hj hn => setRow_other w b j cs (by simpa using hn)⟩
theorem one_row (w : World) (e : Nat) (cs : List Value) (n : Nat) (hn : cs.length = n) : Sl (w.alloc (.cells cs.toArray e)) n (.slice (some ⟨w.heap.size, 0, none⟩) 1 1) 1 cs := blk_sl13 (heap_alloc_new _ _) hn

/-- What Load answers. -/
def LdP (w : World) (l : List Rc) (e : Ending) (w' : World) : Prop :=
  (match loadR l with
    | none => e = .returned (.tuple #[.agg #[.int .u64 0, .int .u64 0, .int .u64 0, .int .u64 0, .int .u64 0, .slice none 0 0, .slice none 0 0, .slice none 0 0, .int .u64 0, .int .u64 0], .int .i64 2])
    | some s => ∃ vi vd vc, e = .returned (.tuple #[.agg (snpC s vi vd vc), .int .i64 0]) ∧ SnpIn w' s vi vd vc) ∧ Ext w w'
theorem LdP.no {w w' : World} {l : List Rc} (h : loadR l = none) (hx : Ext w w') : LdP w l (.returned (.tuple #[.agg #[.int .u64 0, .int .u64 0, .int .u64 0, .int .u64 0, .int .u64 0, .slice none 0 0, .slice none 0 0, .slice none 0 0, .int .u64 0, .int .u64 0], .int .i64 2])) w' := by
  unfold LdP
  rw [h]
  exact ⟨rfl, hx⟩
theorem loadR_bad {l : List Rc} {r : Rc} (h : r ∈ l) (hr : rightB r = false) : loadR l = none := by
  have h2 : l.all rightB = false := by
    rw [Bool.eq_false_iff]
    intro ha
    have := List.all_eq_true.1 ha r h
    rw [hr] at this
    cases this
  unfold loadR
  rw [if_pos h2]
set_option maxHeartbeats 4000000 in
theorem load_any (v : Value) (l : List Rc) (w : World) (h : Rcs w v l) (hl : l.length ≤ 100000) (ht : Tab w) :
    Calls Tryd.prog 12 #[v] w (LdP w l) := by
  have HR := hid h
  obtain ⟨m, hm, hr, hi⟩ := h
  obtain ⟨ao, cap, rfl, hle, hmx, hnn, hcell⟩ := hr.open
  have HI := hid hi
  have HC := hid hcell
  have HNN := hid hnn
  have HT := hid ht
  have hml : m.length = l.length := by rw [← hm, List.length_map]
  obtain ⟨n, hn⟩ : ∃ n, m.length = n := ⟨_, rfl⟩
  rw [← hml, hn] at hl
  rw [hn] at hle HR
  rw [hn]
  have HN := hid hn
  have HM := hid hm
  clear hr hi hcell hnn hm hml hn ht
  obtain ⟨W0, hW0⟩ : ∃ W, w.alloc (.cells #[.int .u64 0, .int .u64 0, .int .u64 0, .int .u64 0, .int .u64 0, .slice none 0 0, .slice none 0 0, .slice none 0 0, .int .u64 0, .int .u64 0] 29 (0, 0)) = W := ⟨_, rfl⟩
  have hE0 := Ext.alloc w (.cells #[.int .u64 0, .int .u64 0, .int .u64 0, .int .u64 0, .int .u64 0, .slice none 0 0, .slice none 0 0, .slice none 0 0, .int .u64 0, .int .u64 0] 29 (0, 0))
  have hb0 := heap_alloc_new w (.cells #[.int .u64 0, .int .u64 0, .int .u64 0, .int .u64 0, .int .u64 0, .slice none 0 0, .slice none 0 0, .slice none 0 0, .int .u64 0, .int .u64 0] 29 (0, 0))
  rw [hW0] at hE0 hb0
  have HE0 := hid hE0
  have HB0 := hid hb0
  clear hE0 hb0
  go_enter Tryd.func12, Tryd.ntmps12
  go_wp2_with rw [hW0]
  clear hW0
  go_loopw [22] (fun i wr => ∃ k : Nat, k ≤ n ∧ i = .int .i64 (k : Int) ∧ Hid (∀ q ∈ m.take k, rightB q.1 = true) ∧ Hid (Ext W0 wr)) (fun i _ => n - (intOf i).toNat)
  case atStart => exact ⟨0, Nat.zero_le _, rfl, hid (by simp), hid (Ext.refl _)⟩
  case round =>
    obtain ⟨k, hk, rfl, HA, HE⟩ := hrel
    by_cases hlt : k < n
    · have hkj : decide ((k : Int) < (n : Int)) = true := by simp; omega
      have hkj2 : (k : Int) < (n : Int) := by omega
      obtain ⟨g, rfl⟩ := HNN.out (by omega)
      have hltL : k < m.length := by rw [HN.out]; exact hlt
      have hc := fun j u h => (HE0.out.trans HE.out).cell (HC.out g rfl k hltL j u h)
      have hvec := HI.out _ (List.getElem_mem hltL)
      have HTK : Hid (m.take (k + 1) = m.take k ++ [m[k]'hltL]) := hid (List.take_succ_eq_append_getElem hltL)
      obtain ⟨o, ho⟩ : ∃ o, m[k]'hltL = o := ⟨_, rfl⟩
      have HIN : Hid ((m[k]'hltL).1 ∈ l) := hid (by rw [← HM.out]; exact List.mem_map.2 ⟨_, List.getElem_mem hltL, rfl⟩)
      rw [ho] at hc hvec HTK HIN
      obtain ⟨⟨kd, ns, tx⟩, r⟩ := o
      dsimp only at hvec
      obtain ⟨ro, rc, rfl, -⟩ := hvec.open
      have HV := hid hvec
      have k0 := cell_first (hc 0 _ rfl)
      have k1 := cell_next (hc 1 _ rfl) (by decide)
      have k2 := cell_next (hc 2 _ rfl) (by decide)
      dsimp only at k0 k1 k2
      obtain ⟨W1, hW1⟩ : ∃ W, wr.alloc (.cells #[.int .i64 kd, .slice ro ns.length rc, .string (str tx)] 62 (0, 0)) = W := ⟨_, rfl⟩
      have hE1 := Ext.alloc wr (.cells #[.int .i64 kd, .slice ro ns.length rc, .string (str tx)] 62 (0, 0))
      have hb1 := heap_alloc_new wr (.cells #[.int .i64 kd, .slice ro ns.length rc, .string (str tx)] 62 (0, 0))
      rw [hW1] at hE1 hb1
      have y0 : W1.cell? ⟨wr.heap.size, 0, none⟩ = some (.int .i64 kd) := by rw [cell_of_row _ _ _ _ _ _ hb1]; rfl
      have y1 : W1.cell? ⟨wr.heap.size, 1, none⟩ = some (.slice ro ns.length rc) := by rw [cell_of_row _ _ _ _ _ _ hb1]; rfl
      have y2 : W1.cell? ⟨wr.heap.size, 2, none⟩ = some (.string (str tx)) := by rw [cell_of_row _ _ _ _ _ _ hb1]; rfl
      have HX1 := hid (HE.out.trans hE1)
      have HLK := hid hlt
      have hwk : IntKind.i64.wrap ((k : Int) + 1) = ((k + 1 : Nat) : Int) := i64v _ (by omega) (by omega)
      have HC1 := hid (right_any ⟨kd, ns, tx⟩ (.slice ro ns.length rc) W1 (HV.out.ext (HE0.out.trans HX1.out)) (HT.out.ext (HE0.out.trans HX1.out)))
      obtain ⟨R, hR⟩ : ∃ R, rightB ⟨kd, ns, tx⟩ = R := ⟨_, rfl⟩
      have HRR := hid hR
      rw [hR] at HC1
      clear hc ho hE1 hb1 hltL hlt HE hvec hR
      go_wp2_with rw [hW1]
      refine HC1.out.mono ?_
      rintro e w2 ⟨rfl, hx⟩
      have HX2 := hid (HX1.out.trans hx)
      clear hx HC1 HX1 k0 k1 k2 y0 y1 y2 hW1
      cases R
      case false =>
        obtain ⟨⟨b0, b1, b2, b3, b4, b5, b6, b7, b8, b9⟩, bf⟩ := blk10 (HX2.out.obj HB0.out)
        go_wp2
        refine bodyPost_ret (ld_results _ _ w.heap.size _ _ _ _ _ _ _ _ _ _ 2 rfl rfl (set10 (HX2.out.obj HB0.out) _ _ _ _ _ _ _ _ _ _)) rfl ?_
        exact LdP.no (loadR_bad HIN.out HRR.out) ((HE0.out.trans HX2.out).below ((set10_fr _ _ _ _ _ _ _ _ _ _ _ _).below (by simp) (HE0.out.trans HX2.out).size))
      case true =>
        go_wp2
        go_roundw
        case rel => exact ⟨k + 1, HLK.out, by first | rfl | go_num, hid (fun q hq => by
          rw [HTK.out] at hq
          rcases List.mem_append.1 hq with hq | hq
          · exact HA.out q hq
          · simp at hq; subst hq; exact HRR.out), HX2⟩
        case measure => have := HLK.out; simp [intOf]; omega
    have hkf : decide ((k : Int) < (n : Int)) = false := by simp; omega
    have hkf2 : (k < n) = False := by simp; omega
    have HAL : Hid (∀ q ∈ m, rightB q.1 = true) := hid (by have h := HA.out; rwa [List.take_of_length_le (by rw [HN.out]; omega)] at h)
    have hll : l.length = n := by rw [← HM.out, List.length_map, HN.out]
    have HLL := hid hll
    clear hlt hk HA hll
    obtain ⟨L1, hL1⟩ : ∃ x, dwK 13 l = x := ⟨_, rfl⟩
    obtain ⟨L2, hL2⟩ : ∃ x, dwK 14 L1 = x := ⟨_, rfl⟩
    obtain ⟨L3, hL3⟩ : ∃ x, dwK 15 L2 = x := ⟨_, rfl⟩
    obtain ⟨L4, hL4⟩ : ∃ x, dwK 16 L3 = x := ⟨_, rfl⟩
    obtain ⟨L5, hL5⟩ : ∃ x, dwK 17 L4 = x := ⟨_, rfl⟩
    have HDL := hid (And.intro hL1 (And.intro hL2 (And.intro hL3 (And.intro hL4 hL5))))
    have hb1 : L1.length ≤ n := by rw [← hL1, ← HLL.out]; exact dwK_len _ _
    have hb2 : L2.length ≤ n := by rw [← hL2]; exact Nat.le_trans (dwK_len _ _) hb1
    have hb3 : L3.length ≤ n := by rw [← hL3]; exact Nat.le_trans (dwK_len _ _) hb2
    have hb4 : L4.length ≤ n := by rw [← hL4]; exact Nat.le_trans (dwK_len _ _) hb3
    have HBL : Hid (L1.length ≤ n ∧ L2.length ≤ n ∧ L3.length ≤ n ∧ L4.length ≤ n) := hid ⟨hb1, hb2, hb3, hb4⟩
    clear hb1 hb2 hb3 hb4
    have HRa := hid (HR.out.ext (HE0.out.trans HE.out))
    have HXa := hid HE.out
    have HNa : Hid (l.length ≤ n) := hid (by rw [HLL.out]; exact Nat.le_refl _)
    have HC := hid (take2_any _ l 13 wr HRa.out (by have := HNa.out; omega))
    rw [HDL.out.1] at HC
    go_wp2_with fail
    clear hkf hkf2
    refine HC.out.mono ?_
    rintro e x1 ⟨⟨vb, rr0, rfl, h6, h7⟩, hx⟩
    have HX1 := hid (HXa.out.trans hx)
    have HV0 := hid h6
    have HR0 := hid h7
    clear h6 h7 hx HC HXa HRa
    have HC := hid (take2_any _ L1 14 x1 HR0.out (by have := HBL.out.1; omega))
    rw [HDL.out.2.1] at HC
    go_wp2_with fail
    refine HC.out.mono ?_
    rintro e x2 ⟨⟨vl, rr1, rfl, h6, h7⟩, hx⟩
    have HX2 := hid (HX1.out.trans hx)
    have HV0 := hid (HV0.out.ext hx)
    have HV1 := hid h6
    have HR1 := hid h7
    clear h6 h7 hx HC HX1 HR0
    have HC := hid (take2_any _ L2 15 x2 HR1.out (by have := HBL.out.2.1; omega))
    rw [HDL.out.2.2.1] at HC
    go_wp2_with fail
    refine HC.out.mono ?_
    rintro e x3 ⟨⟨vd, rr2, rfl, h6, h7⟩, hx⟩
    have HX3 := hid (HX2.out.trans hx)
    have HV0 := hid (HV0.out.ext hx)
    have HV1 := hid (HV1.out.ext hx)
    have HV2 := hid h6
    have HR2 := hid h7
    clear h6 h7 hx HC HX2 HR1
    have HC := hid (take2_any _ L3 16 x3 HR2.out (by have := HBL.out.2.2.1; omega))
    rw [HDL.out.2.2.2.1] at HC
    go_wp2_with fail
    refine HC.out.mono ?_
    rintro e x4 ⟨⟨vc, rr3, rfl, h6, h7⟩, hx⟩
    have HX4 := hid (HX3.out.trans hx)
    have HV0 := hid (HV0.out.ext hx)
    have HV1 := hid (HV1.out.ext hx)
    have HV2 := hid (HV2.out.ext hx)
    have HV3 := hid h6
    have HR3 := hid h7
    clear h6 h7 hx HC HX3 HR2
    have HC := hid (take2_any _ L4 17 x4 HR3.out (by have := HBL.out.2.2.2; omega))
    rw [HDL.out.2.2.2.2] at HC
    go_wp2_with fail
    refine HC.out.mono ?_
    rintro e x5 ⟨⟨ve, rr4, rfl, h6, h7⟩, hx⟩
    have HX5 := hid (HX4.out.trans hx)
    have HV0 := hid (HV0.out.ext hx)
    have HV1 := hid (HV1.out.ext hx)
    have HV2 := hid (HV2.out.ext hx)
    have HV3 := hid (HV3.out.ext hx)
    have HV4 := hid h6
    have HR4 := hid h7
    clear h6 h7 hx HC HX4 HR3
    have HNONE : Hid ((twK 13 l).length ≠ 1 ∨ (twK 17 L4).length ≠ 1 ∨ 0 < L5.length ∨ nAt ((twK 17 L4).getD 0 r0) 0 ≠ UInt64.ofNat (l.length - 1) → loadR l = none) := hid (fun hh => by
      unfold loadR
      split
      · rfl
      · simp only [HDL.out.1, HDL.out.2.1, HDL.out.2.2.1, HDL.out.2.2.2.1, HDL.out.2.2.2.2]
        rw [if_pos hh])
    obtain ⟨mb, hmb, hrb, hib⟩ := HV0.out
    obtain ⟨bo, bc, rfl, hble, hbmx, hbnn, hbc⟩ := hrb.open
    obtain ⟨me, hme, hre, hie⟩ := HV4.out
    obtain ⟨eo, ec, rfl, hele, hemx, henn, hec⟩ := hre.open
    obtain ⟨mf, hmf, hrf, hif⟩ := HR4.out
    obtain ⟨fo, fc, rfl, hfle, hfmx, hfnn, hfc⟩ := hrf.open
    have hbl : mb.length = (twK 13 l).length := by rw [← hmb, List.length_map]
    have hel : me.length = (twK 17 L4).length := by rw [← hme, List.length_map]
    have hfl : mf.length = L5.length := by rw [← hmf, List.length_map]
    have HBc := hid hbc
    have HEc := hid hec
    have HIE := hid hie
    have HIB := hid hib
    have HME := hid hme
    have HMB := hid hmb
    obtain ⟨nb, hnb⟩ : ∃ x, mb.length = x := ⟨_, rfl⟩
    obtain ⟨ne, hne⟩ : ∃ x, me.length = x := ⟨_, rfl⟩
    obtain ⟨nf, hnf⟩ : ∃ x, mf.length = x := ⟨_, rfl⟩
    rw [hnb] at hbl hble
    rw [hne] at hel hele
    rw [hnf] at hfl hfle
    rw [hnb, hne, hnf]
    have HBl := hid hbl
    have HEl := hid hel
    have HFl := hid hfl
    have HNb := hid hnb
    have HNe := hid hne
    obtain ⟨⟨b0, b1, b2, b3, b4, b5, b6, b7, b8, b9⟩, bf⟩ := blk10 (HX5.out.obj HB0.out)
    clear hbl hel hfl hnb hne hnf hrb hre hrf hib hie hif hmb hme hmf hbc hec hfc hfnn
    by_cases q1 : nb = 1
    case neg =>
      have hd1 : ((nb : Int) != 1) = true := by rw [bne_iff_ne]; omega
      have HQ := hid q1
      clear q1
      go_wp2
      refine bodyPost_ret (ld_results _ _ w.heap.size _ _ _ _ _ _ _ _ _ _ 2 rfl rfl (set10 (HX5.out.obj HB0.out) _ _ _ _ _ _ _ _ _ _)) rfl ?_
      exact LdP.no (HNONE.out (by exact .inl (by rw [← HBl.out]; exact HQ.out))) ((HE0.out.trans HX5.out).below ((set10_fr _ _ _ _ _ _ _ _ _ _ _ _).below (by simp) (HE0.out.trans HX5.out).size))
    have hd1 : ((nb : Int) != 1) = false := by simp; omega
    by_cases q2 : ne = 1
    case neg =>
      have hd2 : ((ne : Int) != 1) = true := by rw [bne_iff_ne]; omega
      have HQ := hid q2
      clear q1 q2
      go_wp2
      refine bodyPost_ret (ld_results _ _ w.heap.size _ _ _ _ _ _ _ _ _ _ 2 rfl rfl (set10 (HX5.out.obj HB0.out) _ _ _ _ _ _ _ _ _ _)) rfl ?_
      exact LdP.no (HNONE.out (by exact .inr (.inl (by rw [← HEl.out]; exact HQ.out)))) ((HE0.out.trans HX5.out).below ((set10_fr _ _ _ _ _ _ _ _ _ _ _ _).below (by simp) (HE0.out.trans HX5.out).size))
    have hd2 : ((ne : Int) != 1) = false := by simp; omega
    by_cases q3 : 0 < nf
    · have hd3 : decide ((0 : Int) < (nf : Int)) = true := by simp; omega
      have HQ := hid q3
      clear q1 q2
      go_wp2
      refine bodyPost_ret (ld_results _ _ w.heap.size _ _ _ _ _ _ _ _ _ _ 2 rfl rfl (set10 (HX5.out.obj HB0.out) _ _ _ _ _ _ _ _ _ _)) rfl ?_
      exact LdP.no (HNONE.out (by exact .inr (.inr (.inl (by rw [← HFl.out]; exact HQ.out))))) ((HE0.out.trans HX5.out).below ((set10_fr _ _ _ _ _ _ _ _ _ _ _ _).below (by simp) (HE0.out.trans HX5.out).size))
    have hd3 : decide ((0 : Int) < (nf : Int)) = false := by simp; omega
    have hd3p : (0 < nf) = False := by simp; omega
    have HALL : Hid (∀ r ∈ l, rightB r = true) := hid (fun r hr => by
      rw [← HM.out] at hr
      obtain ⟨q, hq, rfl⟩ := List.mem_map.1 hr
      exact HAL.out q hq)
    have HF0 : Hid (L5.length = 0) := hid (by rw [← HFl.out]; omega)
    subst q1 q2
    obtain ⟨⟨⟨kb, nsb, txb⟩, vbb⟩, hpb⟩ : ∃ p, mb = [p] := List.length_eq_one_iff.1 HNb.out
    obtain ⟨⟨⟨ke, nse, txe⟩, vee⟩, hpe⟩ : ∃ p, me = [p] := List.length_eq_one_iff.1 HNe.out
    subst hpb hpe
    have hkb : twK 13 l = [⟨kb, nsb, txb⟩] := by rw [← HMB.out]; rfl
    have hke : twK 17 L4 = [⟨ke, nse, txe⟩] := by rw [← HME.out]; rfl
    have hmb := mem_twK (k := 13) (l := l) (r := ⟨kb, nsb, txb⟩) (by rw [hkb]; simp)
    have hme := mem_twK (k := 17) (l := L4) (r := ⟨ke, nse, txe⟩) (by rw [hke]; simp)
    have hL4 : ∀ r ∈ L4, r ∈ l := fun r hr => by
      rw [← HDL.out.2.2.2.1] at hr
      have h := mem_dwK hr
      rw [← HDL.out.2.2.1] at h
      have h := mem_dwK h
      rw [← HDL.out.2.1] at h
      have h := mem_dwK h
      rw [← HDL.out.1] at h
      exact mem_dwK h
    have hlb : nsb.length = 7 := by
      have h := right_len (HALL.out _ hmb.2)
      rw [hmb.1] at h
      exact h
    have hle1 : nse.length = 1 := by
      have h := right_len (HALL.out _ (hL4 _ hme.2))
      rw [hme.1] at h
      exact h
    obtain ⟨a0, a1, a2, a3, a4, a5, a6, rfl⟩ := len7_ex hlb
    obtain ⟨ye, rfl⟩ := len1_ex hle1
    obtain ⟨no, nc, hvb, hnle, hnmx, hnnn, hncell⟩ := (HIB.out _ (List.mem_singleton.2 rfl)).open
    obtain ⟨xo, xc, hve, hxle, hxmx, hxnn, hxcell⟩ := (HIE.out _ (List.mem_singleton.2 rfl)).open
    dsimp only at hvb hve
    subst hvb hve
    simp only [List.length_cons, List.length_nil, Nat.reduceAdd, Nat.zero_add] at hnle hxle hncell hxcell
    obtain ⟨ng, rfl⟩ := hnnn (by omega)
    obtain ⟨xg, rfl⟩ := hxnn (by omega)
    obtain ⟨bg, rfl⟩ := hbnn (by omega)
    obtain ⟨eg, rfl⟩ := henn (by omega)
    have e1 : x5.cell? ⟨eg.block, eg.off + 1, none⟩ = some (.slice (some xg) 1 xc) := by
      have h := HEc.out eg rfl 0 (by simp) 1 _ rfl
      rwa [show eg.add (0 * 3 + 1) = ⟨eg.block, eg.off + 1, none⟩ by simp [Addr.add]] at h
    have c1 : x5.cell? ⟨bg.block, bg.off + 1, none⟩ = some (.slice (some ng) 7 nc) := by
      have h := HBc.out bg rfl 0 (by simp) 1 _ rfl
      rwa [show bg.add (0 * 3 + 1) = ⟨bg.block, bg.off + 1, none⟩ by simp [Addr.add]] at h
    have y0 : x5.cell? xg = some (uv ye) := by
      have h := hxcell xg rfl 0 (by simp)
      rwa [show xg.add 0 = xg by simp [Addr.add]] at h
    have HNC := hid (fun j (hj : j < 7) => hncell ng rfl j (by simpa using hj))
    have HC1 := hid c1
    have HY0 := hid y0
    obtain ⟨K, hK⟩ : ∃ K : UInt64, UInt64.ofNat (l.length - 1) = K := ⟨_, rfl⟩
    have hn1 : 1 ≤ n := by
      rw [← HLL.out]
      exact List.length_pos_of_mem hmb.2
    have hKn : (K.toNat : Int) = (n : Int) - 1 := by
      rw [← hK, HLL.out, UInt64.toNat_ofNat', Nat.mod_eq_of_lt (by omega)]; omega
    have hw1 : IntKind.i64.wrap ((n : Int) - 1) = (K.toNat : Int) := i64v K.toNat hKn.symm (by omega)
    have hw2 := wrapU_u K
    have HKB := hid hkb
    have HKE := hid hke
    have HKK := hid hK
    have HHN := hid hn1
    clear hkb hke hmb hme hL4 hlb hle1 hnnn hxnn hncell hxcell hnle hnmx hxle hxmx hbnn henn hK hn1 hKn c1 hble hbmx hele hemx hfle hfmx
    by_cases q4 : ye = K
    case neg =>
      have hd4 : ((ye.toNat : Int) != (K.toNat : Int)) = true := by
        rw [bne_iff_ne]; intro h; exact q4 (UInt64.toNat_inj.1 (by omega))
      have HQ := hid q4
      clear q4
      go_wp2
      refine bodyPost_ret (ld_results _ _ w.heap.size _ _ _ _ _ _ _ _ _ _ 2 rfl rfl (set10 (HX5.out.obj HB0.out) _ _ _ _ _ _ _ _ _ _)) rfl ?_
      exact LdP.no (HNONE.out (by exact .inr (.inr (.inr (by rw [HKE.out, HKK.out]; exact HQ.out))))) ((HE0.out.trans HX5.out).below ((set10_fr _ _ _ _ _ _ _ _ _ _ _ _).below (by simp) (HE0.out.trans HX5.out).size))
    subst q4
    have hd4 : ((ye.toNat : Int) != (ye.toNat : Int)) = false := by simp
    have c1 := HC1.out
    go_wp2_with fail
    clear e1 c1 y0
    have n0 : x5.cell? ng = some (uv a0) := by
      have h := HNC.out 0 (by decide)
      rwa [show ng.add 0 = ng by simp [Addr.add]] at h
    have n1 : x5.cell? ⟨ng.block, ng.off + 1, none⟩ = some (uv a1) := by
      have h := HNC.out 1 (by decide)
      rwa [show ng.add 1 = ⟨ng.block, ng.off + 1, none⟩ by simp [Addr.add]] at h
    have n2 : x5.cell? ⟨ng.block, ng.off + 2, none⟩ = some (uv a2) := by
      have h := HNC.out 2 (by decide)
      rwa [show ng.add 2 = ⟨ng.block, ng.off + 2, none⟩ by simp [Addr.add]] at h
    have n3 : x5.cell? ⟨ng.block, ng.off + 3, none⟩ = some (uv a3) := by
      have h := HNC.out 3 (by decide)
      rwa [show ng.add 3 = ⟨ng.block, ng.off + 3, none⟩ by simp [Addr.add]] at h
    have n4 : x5.cell? ⟨ng.block, ng.off + 4, none⟩ = some (uv a4) := by
      have h := HNC.out 4 (by decide)
      rwa [show ng.add 4 = ⟨ng.block, ng.off + 4, none⟩ by simp [Addr.add]] at h
    have n5 : x5.cell? ⟨ng.block, ng.off + 5, none⟩ = some (uv a5) := by
      have h := HNC.out 5 (by decide)
      rwa [show ng.add 5 = ⟨ng.block, ng.off + 5, none⟩ by simp [Addr.add]] at h
    have n6 : x5.cell? ⟨ng.block, ng.off + 6, none⟩ = some (uv a6) := by
      have h := HNC.out 6 (by decide)
      rwa [show ng.add 6 = ⟨ng.block, ng.off + 6, none⟩ by simp [Addr.add]] at h
    have HN0 := hid (And.intro n0 (And.intro n1 (And.intro n2 (And.intro n3 (And.intro n4 (And.intro n5 n6))))))
    clear n0 n1 n2 n3 n4 n5 n6 b0 b1 b2 b3 b4 b5 b6 b7 b8 b9 bf
    refine ParE.wp_region_e (l := [_, _, _, _, _, _, _, _, _, _, _, _, _, _, _, _, _, _, _, _, _, _, _, _, _]) rfl (Rg.Ch [23, 24] [13] (LdBoxQ x5 13 (snpC ⟨a0, a1, a2, a3, a4, [], [], [], a5, a6⟩ (.slice none 0 0) (.slice none 0 0) (.slice none 0 0)) #[.int .u64 0, .int .u64 0, .int .u64 0, .int .u64 0, .int .u64 0, .slice none 0 0, .slice none 0 0, .slice none 0 0, .int .u64 0, .int .u64 0])) (ParC.VC [ParC.EQ (Value.slice (some ng) 7 nc), ParC.EQ (Value.pointer (some ng)), ParC.EQ (uv a0), ParC.EQ (Value.slice (some ng) 7 nc), ParC.EQ (Value.pointer (some ⟨ng.block, ng.off + 1, none⟩)), ParC.EQ (uv a1), ParC.EQ (Value.slice (some ng) 7 nc), ParC.EQ (Value.pointer (some ⟨ng.block, ng.off + 2, none⟩)), ParC.EQ (uv a2), ParC.EQ (Value.slice (some ng) 7 nc), ParC.EQ (Value.pointer (some ⟨ng.block, ng.off + 3, none⟩)), ParC.EQ (uv a3), ParC.EQ (Value.slice (some ng) 7 nc), ParC.EQ (Value.pointer (some ⟨ng.block, ng.off + 4, none⟩)), ParC.EQ (uv a4), ParC.EQ (Value.agg #[uv a0, uv a1, uv a2, uv a3, uv a4, .slice none 0 0, .slice none 0 0, .slice none 0 0]), ParC.EQ (Value.slice (some ng) 7 nc), ParC.EQ (Value.pointer (some ⟨ng.block, ng.off + 5, none⟩)), ParC.EQ (uv a5), ParC.EQ (Value.slice (some ng) 7 nc), ParC.EQ (Value.pointer (some ⟨ng.block, ng.off + 6, none⟩)), ParC.EQ (uv a6), ParC.EQ (Value.agg #[uv a0, uv a1, uv a2, uv a3, uv a4, .slice none 0 0, .slice none 0 0, .slice none 0 0, uv a5, uv a6]), (fun _ => True), fun _ => True]) (by kernel_rfl) (by kernel_rfl) (Rg.Ch.start (Ext.draw _)) ?_ ?_
    · refine ⟨fun L ρ w' hR hC hL hd hk => ?_, ?_⟩
      · exact Par.val_of_run rfl ⟨hR.other (by decide), hk.1⟩
      refine ⟨fun L ρ w' hR hC hL hd hk => ?_, ?_⟩
      · obtain ⟨k0, k1, -⟩ := hk
        have e0 : ρ (.tmp 87) = Value.slice (some ng) 7 nc := k0
        have e1 : ρ (Operand.const (Value.int IntKind.i64 0)) = (Value.int IntKind.i64 0) := k1
        clear k0 k1
        refine Par.val_k fun K hK => ?_
        unfold Par.val
        (go_simp; exact hK _ _ ⟨hR.other (by decide), rfl⟩)
      refine ⟨fun L ρ w' hR hC hL hd hk => ?_, ?_⟩
      · obtain ⟨k0, -⟩ := hk
        have e0 : ρ (.tmp 88) = Value.pointer (some ng) := k0
        clear k0
        refine Par.val_k fun K hK => ?_
        unfold Par.val
        (obtain ⟨i, -, -, hq⟩ := hR.ex; have hx := hq.ext; have cc := hx.cell HN0.out.1; go_simp; exact hK _ _ ⟨hR.other (by decide), rfl⟩)
      refine ⟨fun L ρ w' hR hC hL hd hk => ?_, ?_⟩
      · exact Par.val_of_run rfl ⟨hR.other (by decide), hk.1⟩
      refine ⟨fun L ρ w' hR hC hL hd hk => ?_, ?_⟩
      · obtain ⟨k0, k1, -⟩ := hk
        have e0 : ρ (.tmp 90) = Value.slice (some ng) 7 nc := k0
        have e1 : ρ (Operand.const (Value.int IntKind.i64 1)) = (Value.int IntKind.i64 1) := k1
        clear k0 k1
        refine Par.val_k fun K hK => ?_
        unfold Par.val
        (go_simp; exact hK _ _ ⟨hR.other (by decide), rfl⟩)
      refine ⟨fun L ρ w' hR hC hL hd hk => ?_, ?_⟩
      · obtain ⟨k0, -⟩ := hk
        have e0 : ρ (.tmp 91) = Value.pointer (some ⟨ng.block, ng.off + 1, none⟩) := k0
        clear k0
        refine Par.val_k fun K hK => ?_
        unfold Par.val
        (obtain ⟨i, -, -, hq⟩ := hR.ex; have hx := hq.ext; have cc := hx.cell HN0.out.2.1; go_simp; exact hK _ _ ⟨hR.other (by decide), rfl⟩)
      refine ⟨fun L ρ w' hR hC hL hd hk => ?_, ?_⟩
      · exact Par.val_of_run rfl ⟨hR.other (by decide), hk.1⟩
      refine ⟨fun L ρ w' hR hC hL hd hk => ?_, ?_⟩
      · obtain ⟨k0, k1, -⟩ := hk
        have e0 : ρ (.tmp 93) = Value.slice (some ng) 7 nc := k0
        have e1 : ρ (Operand.const (Value.int IntKind.i64 2)) = (Value.int IntKind.i64 2) := k1
        clear k0 k1
        refine Par.val_k fun K hK => ?_
        unfold Par.val
        (go_simp; exact hK _ _ ⟨hR.other (by decide), rfl⟩)
      refine ⟨fun L ρ w' hR hC hL hd hk => ?_, ?_⟩
      · obtain ⟨k0, -⟩ := hk
        have e0 : ρ (.tmp 94) = Value.pointer (some ⟨ng.block, ng.off + 2, none⟩) := k0
        clear k0
        refine Par.val_k fun K hK => ?_
        unfold Par.val
        (obtain ⟨i, -, -, hq⟩ := hR.ex; have hx := hq.ext; have cc := hx.cell HN0.out.2.2.1; go_simp; exact hK _ _ ⟨hR.other (by decide), rfl⟩)
      refine ⟨fun L ρ w' hR hC hL hd hk => ?_, ?_⟩
      · exact Par.val_of_run rfl ⟨hR.other (by decide), hk.1⟩
      refine ⟨fun L ρ w' hR hC hL hd hk => ?_, ?_⟩
      · obtain ⟨k0, k1, -⟩ := hk
        have e0 : ρ (.tmp 96) = Value.slice (some ng) 7 nc := k0
        have e1 : ρ (Operand.const (Value.int IntKind.i64 3)) = (Value.int IntKind.i64 3) := k1
        clear k0 k1
        refine Par.val_k fun K hK => ?_
        unfold Par.val
        (go_simp; exact hK _ _ ⟨hR.other (by decide), rfl⟩)
      refine ⟨fun L ρ w' hR hC hL hd hk => ?_, ?_⟩
      · obtain ⟨k0, -⟩ := hk
        have e0 : ρ (.tmp 97) = Value.pointer (some ⟨ng.block, ng.off + 3, none⟩) := k0
        clear k0
        refine Par.val_k fun K hK => ?_
        unfold Par.val
        (obtain ⟨i, -, -, hq⟩ := hR.ex; have hx := hq.ext; have cc := hx.cell HN0.out.2.2.2.1; go_simp; exact hK _ _ ⟨hR.other (by decide), rfl⟩)
      refine ⟨fun L ρ w' hR hC hL hd hk => ?_, ?_⟩
      · exact Par.val_of_run rfl ⟨hR.other (by decide), hk.1⟩
      refine ⟨fun L ρ w' hR hC hL hd hk => ?_, ?_⟩
      · obtain ⟨k0, k1, -⟩ := hk
        have e0 : ρ (.tmp 99) = Value.slice (some ng) 7 nc := k0
        have e1 : ρ (Operand.const (Value.int IntKind.i64 4)) = (Value.int IntKind.i64 4) := k1
        clear k0 k1
        refine Par.val_k fun K hK => ?_
        unfold Par.val
        (go_simp; exact hK _ _ ⟨hR.other (by decide), rfl⟩)
      refine ⟨fun L ρ w' hR hC hL hd hk => ?_, ?_⟩
      · obtain ⟨k0, -⟩ := hk
        have e0 : ρ (.tmp 100) = Value.pointer (some ⟨ng.block, ng.off + 4, none⟩) := k0
        clear k0
        refine Par.val_k fun K hK => ?_
        unfold Par.val
        (obtain ⟨i, -, -, hq⟩ := hR.ex; have hx := hq.ext; have cc := hx.cell HN0.out.2.2.2.2.1; go_simp; exact hK _ _ ⟨hR.other (by decide), rfl⟩)
      refine ⟨fun L ρ w' hR hC hL hd hk => ?_, ?_⟩
      · obtain ⟨k0, k1, k2, k3, k4, -⟩ := hk
        have e0 : ρ (.tmp 89) = uv a0 := k0
        have e1 : ρ (.tmp 92) = uv a1 := k1
        have e2 : ρ (.tmp 95) = uv a2 := k2
        have e3 : ρ (.tmp 98) = uv a3 := k3
        have e4 : ρ (.tmp 101) = uv a4 := k4
        clear k0 k1 k2 k3 k4
        refine Par.val_k fun K hK => ?_
        unfold Par.val
        (go_simp; exact hK _ _ ⟨hR.other (by decide), rfl⟩)
      refine ⟨fun L ρ w' hR hC hL hd hk => ?_, ?_⟩
      · exact Par.val_of_run rfl ⟨hR.other (by decide), hk.1⟩
      refine ⟨fun L ρ w' hR hC hL hd hk => ?_, ?_⟩
      · obtain ⟨k0, k1, -⟩ := hk
        have e0 : ρ (.tmp 103) = Value.slice (some ng) 7 nc := k0
        have e1 : ρ (Operand.const (Value.int IntKind.i64 5)) = (Value.int IntKind.i64 5) := k1
        clear k0 k1
        refine Par.val_k fun K hK => ?_
        unfold Par.val
        (go_simp; exact hK _ _ ⟨hR.other (by decide), rfl⟩)
      refine ⟨fun L ρ w' hR hC hL hd hk => ?_, ?_⟩
      · obtain ⟨k0, -⟩ := hk
        have e0 : ρ (.tmp 104) = Value.pointer (some ⟨ng.block, ng.off + 5, none⟩) := k0
        clear k0
        refine Par.val_k fun K hK => ?_
        unfold Par.val
        (obtain ⟨i, -, -, hq⟩ := hR.ex; have hx := hq.ext; have cc := hx.cell HN0.out.2.2.2.2.2.1; go_simp; exact hK _ _ ⟨hR.other (by decide), rfl⟩)
      refine ⟨fun L ρ w' hR hC hL hd hk => ?_, ?_⟩
      · exact Par.val_of_run rfl ⟨hR.other (by decide), hk.1⟩
      refine ⟨fun L ρ w' hR hC hL hd hk => ?_, ?_⟩
      · obtain ⟨k0, k1, -⟩ := hk
        have e0 : ρ (.tmp 106) = Value.slice (some ng) 7 nc := k0
        have e1 : ρ (Operand.const (Value.int IntKind.i64 6)) = (Value.int IntKind.i64 6) := k1
        clear k0 k1
        refine Par.val_k fun K hK => ?_
        unfold Par.val
        (go_simp; exact hK _ _ ⟨hR.other (by decide), rfl⟩)
      refine ⟨fun L ρ w' hR hC hL hd hk => ?_, ?_⟩
      · obtain ⟨k0, -⟩ := hk
        have e0 : ρ (.tmp 107) = Value.pointer (some ⟨ng.block, ng.off + 6, none⟩) := k0
        clear k0
        refine Par.val_k fun K hK => ?_
        unfold Par.val
        (obtain ⟨i, -, -, hq⟩ := hR.ex; have hx := hq.ext; have cc := hx.cell HN0.out.2.2.2.2.2.2; go_simp; exact hK _ _ ⟨hR.other (by decide), rfl⟩)
      refine ⟨fun L ρ w' hR hC hL hd hk => ?_, ?_⟩
      · obtain ⟨k0, k1, k2, -⟩ := hk
        have e0 : ρ (.tmp 102) = Value.agg #[uv a0, uv a1, uv a2, uv a3, uv a4, .slice none 0 0, .slice none 0 0, .slice none 0 0] := k0
        have e1 : ρ (.tmp 105) = uv a5 := k1
        have e2 : ρ (.tmp 108) = uv a6 := k2
        clear k0 k1 k2
        refine Par.val_k fun K hK => ?_
        unfold Par.val
        (go_simp; exact hK _ _ ⟨hR.other (by decide), rfl⟩)
      refine ⟨fun L ρ w' hR hC hL hd hk => ?_, ?_⟩
      · obtain ⟨-⟩ := hk
        skip
        refine Par.val_k fun K hK => ?_
        unfold Par.val
        (obtain ⟨hq, hs⟩ := hR.go 0 rfl hL (.inl rfl) (by decide); have hx : Ext x5 w' := hq; have hbx := heap_alloc_new w' (.cells #[.int .u64 0, .int .u64 0, .int .u64 0, .int .u64 0, .int .u64 0, .slice none 0 0, .slice none 0 0, .slice none 0 0, .int .u64 0, .int .u64 0] 29 (0, 0)); go_simp; exact hK _ _ ⟨hs _ _ _ ⟨hx.trans (Ext.alloc _ _), w'.heap.size, rfl, hx.size, hbx⟩, trivial⟩)
      refine ⟨fun L ρ w' hR hC hL hd hk => ?_, ?_⟩
      · obtain ⟨k0, k1, -⟩ := hk
        have e0 : (fun _ => True) (ρ (.tmp 13))  := k0
        have e1 : ρ (.tmp 109) = Value.agg #[uv a0, uv a1, uv a2, uv a3, uv a4, .slice none 0 0, .slice none 0 0, .slice none 0 0, uv a5, uv a6] := k1
        clear k0 k1
        refine Par.val_k fun K hK => ?_
        unfold Par.val
        (obtain ⟨hq, hs⟩ := hR.go 1 rfl hL (.inr ⟨23, rfl, hC.before 23 (i := 24) rfl hd (by kernel_rfl)⟩) (by decide); obtain ⟨hx, qb, h13, hqs, hqb⟩ := hq; have s13 : ρ (.tmp 13) = pv qb := h13; obtain ⟨⟨z0, z1, z2, z3, z4, z5, z6, z7, z8, z9⟩, zf⟩ := blk10 hqb; have HS9 := hid (set10 hqb (uv a0) (uv a1) (uv a2) (uv a3) (uv a4) (.slice none 0 0) (.slice none 0 0) (.slice none 0 0) (uv a5) (uv a6)); have HF9 := hid (Ext.below hx ((set10_fr w' qb (uv a0) (uv a1) (uv a2) (uv a3) (uv a4) (.slice none 0 0) (.slice none 0 0) (.slice none 0 0) (uv a5) (uv a6)).below (by simp; exact hqs) hx.size)); have HQS := hid hqs; clear hqs hqb hx; go_simp; exact hK _ _ ⟨hs none _ _ ⟨HF9.out, qb, h13, HQS.out, HS9.out⟩, trivial⟩)
      trivial
    intro a' w' inv hR
    have q87 : a'.tmps.getD 87 undef = Value.slice (some ng) 7 nc := inv.done 0 _ 87 rfl rfl rfl
    have q88 : a'.tmps.getD 88 undef = Value.pointer (some ng) := inv.done 1 _ 88 rfl rfl rfl
    have q89 : a'.tmps.getD 89 undef = uv a0 := inv.done 2 _ 89 rfl rfl rfl
    have q90 : a'.tmps.getD 90 undef = Value.slice (some ng) 7 nc := inv.done 3 _ 90 rfl rfl rfl
    have q91 : a'.tmps.getD 91 undef = Value.pointer (some ⟨ng.block, ng.off + 1, none⟩) := inv.done 4 _ 91 rfl rfl rfl
    have q92 : a'.tmps.getD 92 undef = uv a1 := inv.done 5 _ 92 rfl rfl rfl
    have q93 : a'.tmps.getD 93 undef = Value.slice (some ng) 7 nc := inv.done 6 _ 93 rfl rfl rfl
    have q94 : a'.tmps.getD 94 undef = Value.pointer (some ⟨ng.block, ng.off + 2, none⟩) := inv.done 7 _ 94 rfl rfl rfl
    have q95 : a'.tmps.getD 95 undef = uv a2 := inv.done 8 _ 95 rfl rfl rfl
    have q96 : a'.tmps.getD 96 undef = Value.slice (some ng) 7 nc := inv.done 9 _ 96 rfl rfl rfl
    have q97 : a'.tmps.getD 97 undef = Value.pointer (some ⟨ng.block, ng.off + 3, none⟩) := inv.done 10 _ 97 rfl rfl rfl
    have q98 : a'.tmps.getD 98 undef = uv a3 := inv.done 11 _ 98 rfl rfl rfl
    have q99 : a'.tmps.getD 99 undef = Value.slice (some ng) 7 nc := inv.done 12 _ 99 rfl rfl rfl
    have q100 : a'.tmps.getD 100 undef = Value.pointer (some ⟨ng.block, ng.off + 4, none⟩) := inv.done 13 _ 100 rfl rfl rfl
    have q101 : a'.tmps.getD 101 undef = uv a4 := inv.done 14 _ 101 rfl rfl rfl
    have q102 : a'.tmps.getD 102 undef = Value.agg #[uv a0, uv a1, uv a2, uv a3, uv a4, .slice none 0 0, .slice none 0 0, .slice none 0 0] := inv.done 15 _ 102 rfl rfl rfl
    have q103 : a'.tmps.getD 103 undef = Value.slice (some ng) 7 nc := inv.done 16 _ 103 rfl rfl rfl
    have q104 : a'.tmps.getD 104 undef = Value.pointer (some ⟨ng.block, ng.off + 5, none⟩) := inv.done 17 _ 104 rfl rfl rfl
    have q105 : a'.tmps.getD 105 undef = uv a5 := inv.done 18 _ 105 rfl rfl rfl
    have q106 : a'.tmps.getD 106 undef = Value.slice (some ng) 7 nc := inv.done 19 _ 106 rfl rfl rfl
    have q107 : a'.tmps.getD 107 undef = Value.pointer (some ⟨ng.block, ng.off + 6, none⟩) := inv.done 20 _ 107 rfl rfl rfl
    have q108 : a'.tmps.getD 108 undef = uv a6 := inv.done 21 _ 108 rfl rfl rfl
    have q109 : a'.tmps.getD 109 undef = Value.agg #[uv a0, uv a1, uv a2, uv a3, uv a4, .slice none 0 0, .slice none 0 0, .slice none 0 0, uv a5, uv a6] := inv.done 22 _ 109 rfl rfl rfl
    have q13 : (fun _ => True) (a'.tmps.getD 13 undef)  := inv.done 23 _ 13 rfl rfl rfl
    clear inv
    simp only [List.filterMap_cons, List.filterMap_nil, Par.putAll, Act.put, List.setIfInBounds_toArray, List.set_cons_succ, List.set_cons_zero, q87, q88, q89, q90, q91, q92, q93, q94, q95, q96, q97, q98, q99, q100, q101, q102, q103, q104, q105, q106, q107, q108, q109]
    clear q87 q88 q89 q90 q91 q92 q93 q94 q95 q96 q97 q98 q99 q100 q101 q102 q103 q104 q105 q106 q107 q108 q109
    obtain ⟨hx, qb, hq13, hqs, hqb⟩ := Rg.Ch.fin hR (by decide) 2 rfl; have HX6 := hid hx; have HQB := hid hqb; have HQS := hid hqs; have e13 : a'.tmps.getD 13 undef = pv qb := hq13; clear hx hqb hqs hq13 hR
    generalize a'.tmps.getD 13 undef = u13 at *
    try clear a'
    rw [e13]
    clear e13
    obtain ⟨LV, hLV⟩ : ∃ x, twK 14 L1 = x := ⟨_, rfl⟩
    obtain ⟨RW, hRW⟩ : ∃ x, twK 15 L2 = x := ⟨_, rfl⟩
    obtain ⟨CU, hCU⟩ : ∃ x, twK 16 L3 = x := ⟨_, rfl⟩
    have HTW := hid (And.intro hLV (And.intro hRW hCU))
    rw [hLV] at HV1
    rw [hRW] at HV2
    rw [hCU] at HV3
    have hL1 : ∀ r ∈ L1, r ∈ l := fun r hr => by
      rw [← HDL.out.1] at hr
      exact mem_dwK hr
    have hL2 : ∀ r ∈ L2, r ∈ l := fun r hr => by
      rw [← HDL.out.2.1] at hr
      exact hL1 r (mem_dwK hr)
    have hL3 : ∀ r ∈ L3, r ∈ l := fun r hr => by
      rw [← HDL.out.2.2.1] at hr
      exact hL2 r (mem_dwK hr)
    have HK1 : Hid (∀ r ∈ LV, r.n.length = 10) := hid (fun r hr => by
      rw [← hLV] at hr
      have h1 := mem_twK hr
      have h := right_len (HALL.out _ (hL1 _ h1.2))
      rw [h1.1] at h
      exact h)
    have HK2 : Hid (∀ r ∈ RW, r.n.length = 2) := hid (fun r hr => by
      rw [← hRW] at hr
      have h1 := mem_twK hr
      have h := right_len (HALL.out _ (hL2 _ h1.2))
      rw [h1.1] at h
      exact h)
    have HK3 : Hid (∀ r ∈ CU, r.n.length = 1) := hid (fun r hr => by
      rw [← hCU] at hr
      have h1 := mem_twK hr
      have h := right_len (HALL.out _ (hL3 _ h1.2))
      rw [h1.1] at h
      exact h)
    have hb1 : LV.length ≤ n := by rw [← hLV]; exact Nat.le_trans (twK_len _ _) HBL.out.1
    have hb2 : RW.length ≤ n := by rw [← hRW]; exact Nat.le_trans (twK_len _ _) HBL.out.2.1
    have hb3 : CU.length ≤ n := by rw [← hCU]; exact Nat.le_trans (twK_len _ _) HBL.out.2.2.1
    clear hLV hRW hCU hL1 hL2 hL3
    obtain ⟨ml, hml, hrl, hil⟩ := HV1.out
    obtain ⟨lo, lc, rfl, hlle, hlmx, hlnn, hlc⟩ := hrl.open
    obtain ⟨md, hmd, hrd, hid_⟩ := HV2.out
    obtain ⟨do_, dc, rfl, hdle, hdmx, hdnn, hdc⟩ := hrd.open
    obtain ⟨mc, hmc, hrc, hic⟩ := HV3.out
    obtain ⟨co, cc, rfl, hcle, hcmx, hcnn, hcc⟩ := hrc.open
    have hln : ml.length = LV.length := by rw [← hml, List.length_map]
    have hdn : md.length = RW.length := by rw [← hmd, List.length_map]
    have hcn : mc.length = CU.length := by rw [← hmc, List.length_map]
    obtain ⟨nl, hnl⟩ : ∃ x, LV.length = x := ⟨_, rfl⟩
    obtain ⟨nd, hnd⟩ : ∃ x, RW.length = x := ⟨_, rfl⟩
    obtain ⟨nu, hnu⟩ : ∃ x, CU.length = x := ⟨_, rfl⟩
    rw [hnl] at hln hb1
    rw [hnd] at hdn hb2
    rw [hnu] at hcn hb3
    rw [hln] at hlle ⊢
    rw [hdn] at hdle ⊢
    rw [hcn] at hcle ⊢
    have HNL := hid hln
    have HND := hid hdn
    have HNU := hid hcn
    have HNL2 := hid hnl
    have HND2 := hid hnd
    have HNU2 := hid hnu
    have HML := hid hml
    have HMD := hid hmd
    have HMC := hid hmc
    have HIL := hid hil
    have HID := hid hid_
    have HIC := hid hic
    have HLC := hid hlc
    have HDC := hid hdc
    have HCC := hid hcc
    have HLNN := hid hlnn
    have HDNN := hid hdnn
    have HCNN := hid hcnn
    have HBD := hid (And.intro hb1 (And.intro hb2 hb3))
    have HLN := hid hl
    clear hln hdn hcn hnl hnd hnu hml hmd hmc hil hid_ hic hlc hdc hcc hlnn hdnn hcnn hrl hrd hrc hb1 hb2 hb3 HV0 HV1 HV2 HV3 HV4 HR4
    have HS0 : Hid (LdS x5 w' qb ⟨a0, a1, a2, a3, a4, [], [], [], a5, a6⟩ (.slice none 0 0) (.slice none 0 0) (.slice none 0 0)) := hid
      ⟨HQB.out, World.ownsRow_nil _ _ _ _, World.ownsRow_nil _ _ _ _, World.ownsRow_nil _ _ _ _, HQS.out, HX6.out⟩
    clear HQB HQS HX6
    rename_i w6
    go_wp2
    go_loopw [112] (fun iv wr => ∃ (k : Nat) (io : Option Addr) (ic : Nat), k ≤ nl ∧ iv = .int .i64 (k : Int) ∧ Hid (LdS x5 wr qb ⟨a0, a1, a2, a3, a4, (LV.take k).map liveOf, [], [], a5, a6⟩ (.slice io k ic) (.slice none 0 0) (.slice none 0 0))) (fun iv _ => nl - (intOf iv).toNat)
    case atStart => exact ⟨0, none, 0, Nat.zero_le _, rfl, hid (by simpa using HS0.out)⟩
    case round =>
      clear HS0
      obtain ⟨k, io, ic, hk, rfl, HS⟩ := hrel
      by_cases hlt : k < nl
      · have hkj : decide ((k : Int) < (nl : Int)) = true := by simp; omega
        have hkj2 : (k : Int) < (nl : Int) := by omega
        obtain ⟨g, rfl⟩ := HLNN.out (by omega)
        have hltL : k < ml.length := by rw [HNL.out]; exact hlt
        have hc := fun j u h => HS.out.low.cell (HLC.out g rfl k hltL j u h)
        have HTK : Hid (LV.take (k + 1) = LV.take k ++ [(ml[k]'hltL).1]) := hid (by rw [← HML.out, ← List.map_take, ← List.map_take, List.take_succ_eq_append_getElem hltL, List.map_append]; rfl)
        have hvec := (HIL.out _ (List.getElem_mem hltL)).ext HS.out.low
        have hlen := HK1.out (ml[k]'hltL).1 (by rw [← HML.out]; exact List.mem_map.2 ⟨_, List.getElem_mem hltL, rfl⟩)
        have hPL : ((LV.take k).map liveOf).length = k := by rw [List.length_map, List.length_take, ← HML.out, List.length_map]; omega
        obtain ⟨PV, hPV⟩ : ∃ x, (LV.take k).map liveOf = x := ⟨_, rfl⟩
        rw [hPV] at HS hPL
        have HPV := hid hPV
        have HPL := hid hPL
        obtain ⟨o, ho⟩ : ∃ o, ml[k]'hltL = o := ⟨_, rfl⟩
        rw [ho] at hc hvec HTK hlen
        obtain ⟨⟨kd, ns, tx⟩, r⟩ := o
        dsimp only at hvec hlen
        obtain ⟨b0, b1, b2, b3, b4, b5, b6, b7, b8, b9, rfl⟩ := len10_ex hlen
        obtain ⟨IT, hIT⟩ : ∃ x, itmOf b0 b1 b2 b3 b4 b5 b6 b7 b8 b9 = x := ⟨_, rfl⟩
        have HIT : Hid (liveOf ⟨kd, [b0, b1, b2, b3, b4, b5, b6, b7, b8, b9], tx⟩ = IT) := hid hIT
        have HIT2 := hid hIT
        clear hIT
        obtain ⟨i0, i1, i2, i3, i4, i5, i6, i7, i8, i9⟩ := IT
        have HTL : Hid (((LV.take (k + 1)).map liveOf) = PV ++ [⟨i0, i1, i2, i3, i4, i5, i6, i7, i8, i9⟩]) := hid (by rw [HTK.out, List.map_append, HPV.out, ← HIT.out]; rfl)
        obtain ⟨ro, rc, rfl, hrle, hrmx, hrnn, hrc⟩ := hvec.open
        simp only [List.length_cons, List.length_nil, Nat.reduceAdd, Nat.zero_add] at hrle hrc hc hvec
        have k0 := cell_first (hc 0 _ rfl)
        have k1 := cell_next (hc 1 _ rfl) (by decide)
        have k2 := cell_next (hc 2 _ rfl) (by decide)
        dsimp only at k0 k1 k2
        obtain ⟨ra, rfl⟩ := hrnn (by omega)
        obtain ⟨W1, hW1⟩ : ∃ W, wr.alloc (.cells #[.int .i64 kd, .slice (some ra) 10 rc, .string (str tx)] 62 (0, 0)) = W := ⟨_, rfl⟩
        have hE1 := Ext.alloc wr (.cells #[.int .i64 kd, .slice (some ra) 10 rc, .string (str tx)] 62 (0, 0))
        have hn1 := heap_alloc_new wr (.cells #[.int .i64 kd, .slice (some ra) 10 rc, .string (str tx)] 62 (0, 0))
        rw [hW1] at hE1 hn1
        have y0 : W1.cell? ⟨wr.heap.size, 0, none⟩ = some (.int .i64 kd) := by rw [cell_of_row _ _ _ _ _ _ hn1]; rfl
        have y1 : W1.cell? ⟨wr.heap.size, 1, none⟩ = some (.slice (some ra) 10 rc) := by rw [cell_of_row _ _ _ _ _ _ hn1]; rfl
        have y2 : W1.cell? ⟨wr.heap.size, 2, none⟩ = some (.string (str tx)) := by rw [cell_of_row _ _ _ _ _ _ hn1]; rfl
        have HS1 := hid (HS.out.ext hE1)
        have HVC := hid (hvec.ext hE1)
        have HRC : Hid (∀ j (hj : j < 10), W1.cell? (ra.add j) = some (uv ([b0, b1, b2, b3, b4, b5, b6, b7, b8, b9][j]'hj))) := hid (fun j hj => hE1.cell (hrc ra rfl j (by simpa using hj)))
        have HN1 := hid hn1
        have HLK := hid hlt
        have hbd := HBD.out.1
        have hwk : IntKind.i64.wrap ((k : Int) + 1) = ((k + 1 : Nat) : Int) := i64v _ (by omega) (by have := HLN.out; omega)
        clear hc ho hE1 hn1 hltL hlt HS hvec hrnn hrc hrle hrmx hPV hPL hlen hbd
        go_wp2_with rw [hW1]
        clear k0 k1 k2 y0 y1 y2 hW1 hkj
        obtain ⟨bx, hbx⟩ : ∃ b, wr.heap.size = b := ⟨_, rfl⟩
        rw [hbx] at HN1
        try rw [hbx]
        clear hbx
        refine ParE.wp_region_e (l := [_, _, _, _, _, _, _, _, _, _, _]) rfl (Rg.Ch [5, 6, 7, 10] [121, 122, 123] (LdCaQ W1 121 122 123 10 (.agg #[uv i0, .int .i64 i1, .int .i64 i2, .int .i64 i3, uv i4, uv i5, uv i6, uv i7, uv i8, .int .i64 i9]) (itcells ⟨i0, i1, i2, i3, i4, i5, i6, i7, i8, i9⟩) x5.heap.size 69 (k + 1) (.slice io k ic) (PV.flatMap itcells ++ itcells ⟨i0, i1, i2, i3, i4, i5, i6, i7, i8, i9⟩) (fun w' => ∃ o9 c9, LdS x5 w' qb ⟨a0, a1, a2, a3, a4, PV ++ [⟨i0, i1, i2, i3, i4, i5, i6, i7, i8, i9⟩], [], [], a5, a6⟩ (.slice o9 (k + 1) c9) (.slice none 0 0) (.slice none 0 0)))) (ParC.VC [ParC.EQ (pv qb), ParC.EQ (Value.pointer (some ⟨qb, 5, none⟩)), ParC.EQ (Value.slice io k ic), ParC.EQ (Value.pointer (some ⟨bx, 1, none⟩)), ParC.EQ (Value.slice (some ra) 10 rc), (fun _ => True), (fun _ => True), (fun _ => True), ParC.EQ (pv qb), ParC.EQ (Value.pointer (some ⟨qb, 5, none⟩)), fun _ => True]) (by kernel_rfl) (by kernel_rfl) (Rg.Ch.start (Ext.draw _)) ?_ ?_
        · refine ⟨fun L ρ w' hR hC hL hd hk => ?_, ?_⟩
          · obtain ⟨k0, -⟩ := hk
            have e0 : ρ (.tmp 13) = pv qb := k0
            clear k0
            refine Par.val_k fun K hK => ?_
            unfold Par.val
            (go_simp; exact hK _ _ ⟨hR.other (by decide), rfl⟩)
          refine ⟨fun L ρ w' hR hC hL hd hk => ?_, ?_⟩
          · obtain ⟨k0, -⟩ := hk
            have e0 : ρ (.tmp 116) = pv qb := k0
            clear k0
            refine Par.val_k fun K hK => ?_
            unfold Par.val
            (go_simp; exact hK _ _ ⟨hR.other (by decide), rfl⟩)
          refine ⟨fun L ρ w' hR hC hL hd hk => ?_, ?_⟩
          · obtain ⟨k0, -⟩ := hk
            have e0 : ρ (.tmp 117) = Value.pointer (some ⟨qb, 5, none⟩) := k0
            clear k0
            refine Par.val_k fun K hK => ?_
            unfold Par.val
            (obtain ⟨i, hi, hq⟩ := hR.some 2 rfl (hC.notyet 7 2 hL (by kernel_rfl)); have hx := hq.ext hi; obtain ⟨⟨-, -, -, -, -, cc, -, -, -, -⟩, -⟩ := blk10 (HS1.out.ext hx).box; go_simp; exact hK _ _ ⟨hR.other (by decide), rfl⟩)
          refine ⟨fun L ρ w' hR hC hL hd hk => ?_, ?_⟩
          · obtain ⟨k0, -⟩ := hk
            have e0 : ρ (.tmp 15) = pv bx := k0
            clear k0
            refine Par.val_k fun K hK => ?_
            unfold Par.val
            (go_simp; exact hK _ _ ⟨hR.other (by decide), rfl⟩)
          refine ⟨fun L ρ w' hR hC hL hd hk => ?_, ?_⟩
          · obtain ⟨k0, -⟩ := hk
            have e0 : ρ (.tmp 119) = Value.pointer (some ⟨bx, 1, none⟩) := k0
            clear k0
            refine Par.val_k fun K hK => ?_
            unfold Par.val
            (obtain ⟨i, hi, hq⟩ := hR.some 0 rfl (hC.notyet 5 4 hL (by kernel_rfl)); have hx := hq.ext (by omega); have cc := (blk3 (hx.obj HN1.out)).2.1; go_simp; exact hK _ _ ⟨hR.other (by decide), rfl⟩)
          refine ⟨fun L ρ w' hR hC hL hd hk => ?_, ?_⟩
          · obtain ⟨k0, k1, -⟩ := hk
            have e0 := k0
            have e1 : ρ (.tmp 120) = Value.slice (some ra) 10 rc := k1
            clear k0 k1
            refine Par.val_k fun K hK => ?_
            unfold Par.val
            (obtain ⟨hq, hs⟩ := hR.go 0 rfl hL (.inl rfl) (by decide); have hx : Ext W1 w' := hq; refine Par.val_call Tryd.func27 (by kernel_rfl) rfl e0 ?_; simp only [List.map_toArray, List.map_cons, List.map_nil, e1]; refine (sitem_any _ b0 b1 b2 b3 b4 b5 b6 b7 b8 b9 w' (HVC.out.ext hx)).mono ?_; rw [HIT2.out]; rintro e w5 ⟨rfl, hx5⟩; exact ⟨_, rfl, hK _ _ ⟨hs _ _ _ ⟨hx.trans hx5, rfl⟩, trivial⟩⟩)
          refine ⟨fun L ρ w' hR hC hL hd hk => ?_, ?_⟩
          · obtain ⟨k0, -⟩ := hk
            have e0 : (fun _ => True) (ρ (.tmp 121))  := k0
            clear k0
            refine Par.val_k fun K hK => ?_
            unfold Par.val
            (obtain ⟨hq, hs⟩ := hR.go 1 rfl hL (.inr ⟨5, rfl, hC.before 5 (i := 6) rfl hd (by kernel_rfl)⟩) (by decide); obtain ⟨hx, h31⟩ := hq; have s31 : ρ (.tmp 121) = .agg #[uv i0, .int .i64 i1, .int .i64 i2, .int .i64 i3, uv i4, uv i5, uv i6, uv i7, uv i8, .int .i64 i9] := h31; clear h31; go_simp; exact hK _ _ ⟨hs _ _ _ ⟨hx.trans (Ext.alloc _ _), one_row _ 69 (itcells ⟨i0, i1, i2, i3, i4, i5, i6, i7, i8, i9⟩) 10 rfl⟩, trivial⟩)
          refine ⟨fun L ρ w' hR hC hL hd hk => ?_, ?_⟩
          · obtain ⟨k0, k1, -⟩ := hk
            have e0 : ρ (.tmp 118) = Value.slice io k ic := k0
            have e1 : (fun _ => True) (ρ (.tmp 122))  := k1
            clear k0 k1
            refine Par.val_k fun K hK => ?_
            unfold Par.val
            (obtain ⟨hq, hs⟩ := hR.go 2 rfl hL (.inr ⟨6, rfl, hC.before 6 (i := 7) rfl hd (by kernel_rfl)⟩) (by decide); obtain ⟨hx, hsl⟩ := hq; have hsl2 : Sl w' 10 (ρ (.tmp 122)) 1 (itcells ⟨i0, i1, i2, i3, i4, i5, i6, i7, i8, i9⟩) := hsl; have hown : w'.ownsRow x5.heap.size 69 10 (.slice io k ic) PV.length (PV.flatMap itcells) := (HS1.out.ext hx).it; rw [HPL.out] at hown; obtain ⟨a9, c9, w9, r1, r2, r3, r4⟩ := run_append_sl (P := Tryd.prog) x5.heap.size 23 23 69 Tryd.underlying23 infoItm rfl (by decide) hown hsl2 (by intro y hy; simp [itcells, ddcells, cucells] at hy; rcases hy with rfl | rfl | rfl | rfl | rfl | rfl | rfl | rfl | rfl | rfl <;> rfl) (by have := HLK.out; have := HBD.out; have := HLN.out; simp [maxLen]; omega) (by have := HLK.out; have := HBD.out; have := HLN.out; omega) (HS1.out.ext hx).low.size; rw [← e0] at r1; exact Par.val_append r1 (hK _ _ ⟨hs _ _ _ ⟨w', hx, ⟨a9, c9, rfl⟩, r2, r3, r4⟩, trivial⟩))
          refine ⟨fun L ρ w' hR hC hL hd hk => ?_, ?_⟩
          · obtain ⟨k0, -⟩ := hk
            have e0 : ρ (.tmp 13) = pv qb := k0
            clear k0
            refine Par.val_k fun K hK => ?_
            unfold Par.val
            (go_simp; exact hK _ _ ⟨hR.other (by decide), rfl⟩)
          refine ⟨fun L ρ w' hR hC hL hd hk => ?_, ?_⟩
          · obtain ⟨k0, -⟩ := hk
            have e0 : ρ (.tmp 124) = pv qb := k0
            clear k0
            refine Par.val_k fun K hK => ?_
            unfold Par.val
            (go_simp; exact hK _ _ ⟨hR.other (by decide), rfl⟩)
          refine ⟨fun L ρ w' hR hC hL hd hk => ?_, ?_⟩
          · obtain ⟨k0, k1, -⟩ := hk
            have e0 : ρ (.tmp 125) = Value.pointer (some ⟨qb, 5, none⟩) := k0
            have e1 : (fun _ => True) (ρ (.tmp 123))  := k1
            clear k0 k1
            refine Par.val_k fun K hK => ?_
            unfold Par.val
            (obtain ⟨hq, hs⟩ := hR.go 3 rfl hL (.inr ⟨7, rfl, hC.before 7 (i := 10) rfl hd (by kernel_rfl)⟩) (by decide); obtain ⟨W2, hx, ⟨o9, c9, h33⟩, ho, hg, hb⟩ := hq; have s33 : ρ (.tmp 123) = .slice o9 (k + 1) c9 := h33; have ho2 : w'.ownsRow x5.heap.size 69 10 (ρ (.tmp 123)) (k + 1) (PV.flatMap itcells ++ itcells ⟨i0, i1, i2, i3, i4, i5, i6, i7, i8, i9⟩) := ho; rw [s33] at ho2; obtain ⟨hL9, cc, ff⟩ := (HS1.out.ext hx).addI ⟨i0, i1, i2, i3, i4, i5, i6, i7, i8, i9⟩ ho2 (by simp [HPL.out]) hg hb; have HL9 := hid hL9; clear h33 ho ho2 hg hb hL9 hx; go_simp; exact hK _ _ ⟨hs none _ _ ⟨o9, c9, HL9.out⟩, trivial⟩)
          trivial
        intro a' w' inv hR
        have q116 : a'.tmps.getD 116 undef = pv qb := inv.done 0 _ 116 rfl rfl rfl
        have q117 : a'.tmps.getD 117 undef = Value.pointer (some ⟨qb, 5, none⟩) := inv.done 1 _ 117 rfl rfl rfl
        have q118 : a'.tmps.getD 118 undef = Value.slice io k ic := inv.done 2 _ 118 rfl rfl rfl
        have q119 : a'.tmps.getD 119 undef = Value.pointer (some ⟨bx, 1, none⟩) := inv.done 3 _ 119 rfl rfl rfl
        have q120 : a'.tmps.getD 120 undef = Value.slice (some ra) 10 rc := inv.done 4 _ 120 rfl rfl rfl
        have q121 : (fun _ => True) (a'.tmps.getD 121 undef)  := inv.done 5 _ 121 rfl rfl rfl
        have q122 : (fun _ => True) (a'.tmps.getD 122 undef)  := inv.done 6 _ 122 rfl rfl rfl
        have q123 : (fun _ => True) (a'.tmps.getD 123 undef)  := inv.done 7 _ 123 rfl rfl rfl
        have q124 : a'.tmps.getD 124 undef = pv qb := inv.done 8 _ 124 rfl rfl rfl
        have q125 : a'.tmps.getD 125 undef = Value.pointer (some ⟨qb, 5, none⟩) := inv.done 9 _ 125 rfl rfl rfl
        clear inv
        simp only [List.filterMap_cons, List.filterMap_nil, Par.putAll, Act.put, List.setIfInBounds_toArray, List.set_cons_succ, List.set_cons_zero, q116, q117, q118, q119, q120, q124, q125]
        clear q116 q117 q118 q119 q120 q124 q125
        have hp := Rg.Ch.fin hR (by decide) 4 rfl; have HP := hid hp; clear hp hR
        generalize a'.tmps.getD 121 undef = u121 at *
        generalize a'.tmps.getD 122 undef = u122 at *
        generalize a'.tmps.getD 123 undef = u123 at *
        try clear a'
        obtain ⟨o9, c9, hk2⟩ := HP.out
        have HS5 := hid hk2
        clear hk2 HP
        go_wp2
        go_roundw
        case rel => exact ⟨k + 1, o9, c9, HLK.out, by first | rfl | go_num, hid (by rw [HTL.out]; exact HS5.out)⟩
        case measure => have := HLK.out; simp [intOf]; omega
      have hkf : decide ((k : Int) < (nl : Int)) = false := by simp; omega
      have hkf2 : (k < nl) = False := by simp; omega
      obtain rfl : nl = k := by omega
      have htk : LV.take nl = LV := List.take_of_length_le (by rw [← HML.out, List.length_map, HNL.out]; omega)
      rw [htk] at HS
      have HT0 := hid HS.out
      clear hlt hk htk HS
      go_wp2
      go_loopw [129] (fun iv wr => ∃ (k : Nat) (uo : Option Addr) (uc : Nat), k ≤ nd ∧ iv = .int .i64 (k : Int) ∧ Hid (LdS x5 wr qb ⟨a0, a1, a2, a3, a4, LV.map liveOf, (RW.take k).map deadOf, [], a5, a6⟩ (.slice io nl ic) (.slice uo k uc) (.slice none 0 0))) (fun iv _ => nd - (intOf iv).toNat)
      case atStart => exact ⟨0, none, 0, Nat.zero_le _, rfl, hid (by simpa using HT0.out)⟩
      case round =>
        clear HT0
        obtain ⟨k, uo, uc, hk, rfl, HS⟩ := hrel
        by_cases hlt : k < nd
        · have hkj : decide ((k : Int) < (nd : Int)) = true := by simp; omega
          have hkj2 : (k : Int) < (nd : Int) := by omega
          obtain ⟨g, rfl⟩ := HDNN.out (by omega)
          have hltL : k < md.length := by rw [HND.out]; exact hlt
          have hc := fun j u h => HS.out.low.cell (HDC.out g rfl k hltL j u h)
          have HTK : Hid (RW.take (k + 1) = RW.take k ++ [(md[k]'hltL).1]) := hid (by rw [← HMD.out, ← List.map_take, ← List.map_take, List.take_succ_eq_append_getElem hltL, List.map_append]; rfl)
          have hvec := (HID.out _ (List.getElem_mem hltL)).ext HS.out.low
          have hlen := HK2.out (md[k]'hltL).1 (by rw [← HMD.out]; exact List.mem_map.2 ⟨_, List.getElem_mem hltL, rfl⟩)
          have hPL : ((RW.take k).map deadOf).length = k := by rw [List.length_map, List.length_take, ← HMD.out, List.length_map]; omega
          obtain ⟨PV, hPV⟩ : ∃ x, (RW.take k).map deadOf = x := ⟨_, rfl⟩
          rw [hPV] at HS hPL
          have HPV := hid hPV
          have HPL := hid hPL
          obtain ⟨o, ho⟩ : ∃ o, md[k]'hltL = o := ⟨_, rfl⟩
          rw [ho] at hc hvec HTK hlen
          obtain ⟨⟨kd, ns, tx⟩, r⟩ := o
          dsimp only at hvec hlen
          obtain ⟨b0, b1, rfl⟩ := len2_ex hlen
          have HTL : Hid (((RW.take (k + 1)).map deadOf) = PV ++ [(b0, b1)]) := hid (by rw [HTK.out, List.map_append, HPV.out]; rfl)
          obtain ⟨ro, rc, rfl, hrle, hrmx, hrnn, hrc⟩ := hvec.open
          simp only [List.length_cons, List.length_nil, Nat.reduceAdd, Nat.zero_add] at hrle hrc hc hvec
          have k0 := cell_first (hc 0 _ rfl)
          have k1 := cell_next (hc 1 _ rfl) (by decide)
          have k2 := cell_next (hc 2 _ rfl) (by decide)
          dsimp only at k0 k1 k2
          obtain ⟨ra, rfl⟩ := hrnn (by omega)
          obtain ⟨W1, hW1⟩ : ∃ W, wr.alloc (.cells #[.int .i64 kd, .slice (some ra) 2 rc, .string (str tx)] 62 (0, 0)) = W := ⟨_, rfl⟩
          have hE1 := Ext.alloc wr (.cells #[.int .i64 kd, .slice (some ra) 2 rc, .string (str tx)] 62 (0, 0))
          have hn1 := heap_alloc_new wr (.cells #[.int .i64 kd, .slice (some ra) 2 rc, .string (str tx)] 62 (0, 0))
          rw [hW1] at hE1 hn1
          have y0 : W1.cell? ⟨wr.heap.size, 0, none⟩ = some (.int .i64 kd) := by rw [cell_of_row _ _ _ _ _ _ hn1]; rfl
          have y1 : W1.cell? ⟨wr.heap.size, 1, none⟩ = some (.slice (some ra) 2 rc) := by rw [cell_of_row _ _ _ _ _ _ hn1]; rfl
          have y2 : W1.cell? ⟨wr.heap.size, 2, none⟩ = some (.string (str tx)) := by rw [cell_of_row _ _ _ _ _ _ hn1]; rfl
          have HS1 := hid (HS.out.ext hE1)
          have HVC := hid (hvec.ext hE1)
          have HRC : Hid (∀ j (hj : j < 2), W1.cell? (ra.add j) = some (uv ([b0, b1][j]'hj))) := hid (fun j hj => hE1.cell (hrc ra rfl j (by simpa using hj)))
          have HN1 := hid hn1
          have HLK := hid hlt
          have hbd := HBD.out.2.1
          have hwk : IntKind.i64.wrap ((k : Int) + 1) = ((k + 1 : Nat) : Int) := i64v _ (by omega) (by have := HLN.out; omega)
          clear hc ho hE1 hn1 hltL hlt HS hvec hrnn hrc hrle hrmx hPV hPL hlen hbd
          go_wp2_with rw [hW1]
          clear k0 k1 k2 y0 y1 y2 hW1 hkj
          obtain ⟨bx, hbx⟩ : ∃ b, wr.heap.size = b := ⟨_, rfl⟩
          rw [hbx] at HN1
          try rw [hbx]
          clear hbx
          refine ParE.wp_region_e (l := [_, _, _, _, _, _, _, _, _, _, _, _, _, _, _, _, _]) rfl (Rg.Ch [12, 13, 16] [145, 146] (LdApQ W1 145 146 2 (ddcells (b0, b1)) x5.heap.size 75 (k + 1) (.slice uo k uc) (PV.flatMap ddcells ++ ddcells (b0, b1)) (fun w' => ∃ o9 c9, LdS x5 w' qb ⟨a0, a1, a2, a3, a4, LV.map liveOf, PV ++ [(b0, b1)], [], a5, a6⟩ (.slice io nl ic) (.slice o9 (k + 1) c9) (.slice none 0 0)))) (ParC.VC [ParC.EQ (pv qb), ParC.EQ (Value.pointer (some ⟨qb, 6, none⟩)), ParC.EQ (Value.slice uo k uc), ParC.EQ (Value.pointer (some ⟨bx, 1, none⟩)), ParC.EQ (Value.slice (some ra) 2 rc), ParC.EQ (Value.pointer (some ra)), ParC.EQ (uv b0), ParC.EQ (Value.pointer (some ⟨bx, 1, none⟩)), ParC.EQ (Value.slice (some ra) 2 rc), ParC.EQ (Value.pointer (some ⟨ra.block, ra.off + 1, none⟩)), ParC.EQ (uv b1), ParC.EQ (Value.agg #[uv b0, uv b1]), (fun _ => True), (fun _ => True), ParC.EQ (pv qb), ParC.EQ (Value.pointer (some ⟨qb, 6, none⟩)), fun _ => True]) (by kernel_rfl) (by kernel_rfl) (Rg.Ch.start (Ext.draw _)) ?_ ?_
          · refine ⟨fun L ρ w' hR hC hL hd hk => ?_, ?_⟩
            · obtain ⟨k0, -⟩ := hk
              have e0 : ρ (.tmp 13) = pv qb := k0
              clear k0
              refine Par.val_k fun K hK => ?_
              unfold Par.val
              (go_simp; exact hK _ _ ⟨hR.other (by decide), rfl⟩)
            refine ⟨fun L ρ w' hR hC hL hd hk => ?_, ?_⟩
            · obtain ⟨k0, -⟩ := hk
              have e0 : ρ (.tmp 133) = pv qb := k0
              clear k0
              refine Par.val_k fun K hK => ?_
              unfold Par.val
              (go_simp; exact hK _ _ ⟨hR.other (by decide), rfl⟩)
            refine ⟨fun L ρ w' hR hC hL hd hk => ?_, ?_⟩
            · obtain ⟨k0, -⟩ := hk
              have e0 : ρ (.tmp 134) = Value.pointer (some ⟨qb, 6, none⟩) := k0
              clear k0
              refine Par.val_k fun K hK => ?_
              unfold Par.val
              (obtain ⟨i, hi, hq⟩ := hR.some 1 rfl (hC.notyet 13 2 hL (by kernel_rfl)); have hx := hq.ext hi; obtain ⟨⟨-, -, -, -, -, -, cc, -, -, -⟩, -⟩ := blk10 (HS1.out.ext hx).box; go_simp; exact hK _ _ ⟨hR.other (by decide), rfl⟩)
            refine ⟨fun L ρ w' hR hC hL hd hk => ?_, ?_⟩
            · obtain ⟨k0, -⟩ := hk
              have e0 : ρ (.tmp 17) = pv bx := k0
              clear k0
              refine Par.val_k fun K hK => ?_
              unfold Par.val
              (go_simp; exact hK _ _ ⟨hR.other (by decide), rfl⟩)
            refine ⟨fun L ρ w' hR hC hL hd hk => ?_, ?_⟩
            · obtain ⟨k0, -⟩ := hk
              have e0 : ρ (.tmp 136) = Value.pointer (some ⟨bx, 1, none⟩) := k0
              clear k0
              refine Par.val_k fun K hK => ?_
              unfold Par.val
              (obtain ⟨i, hi, hq⟩ := hR.some 1 rfl (hC.notyet 13 4 hL (by kernel_rfl)); have hx := hq.ext hi; have cc := (blk3 (hx.obj HN1.out)).2.1; go_simp; exact hK _ _ ⟨hR.other (by decide), rfl⟩)
            refine ⟨fun L ρ w' hR hC hL hd hk => ?_, ?_⟩
            · obtain ⟨k0, k1, -⟩ := hk
              have e0 : ρ (.tmp 137) = Value.slice (some ra) 2 rc := k0
              have e1 : ρ (Operand.const (Value.int IntKind.i64 0)) = (Value.int IntKind.i64 0) := k1
              clear k0 k1
              refine Par.val_k fun K hK => ?_
              unfold Par.val
              (go_simp; exact hK _ _ ⟨hR.other (by decide), rfl⟩)
            refine ⟨fun L ρ w' hR hC hL hd hk => ?_, ?_⟩
            · obtain ⟨k0, -⟩ := hk
              have e0 : ρ (.tmp 138) = Value.pointer (some ra) := k0
              clear k0
              refine Par.val_k fun K hK => ?_
              unfold Par.val
              (obtain ⟨i, hi, hq⟩ := hR.some 1 rfl (hC.notyet 13 6 hL (by kernel_rfl)); have hx := hq.ext hi; have c0 := hx.cell (HRC.out 0 (by decide)); rw [show ra.add 0 = ra by simp [Addr.add]] at c0; replace c0 : w'.cell? ra = some (uv b0) := c0; go_simp; exact hK _ _ ⟨hR.other (by decide), rfl⟩)
            refine ⟨fun L ρ w' hR hC hL hd hk => ?_, ?_⟩
            · obtain ⟨k0, -⟩ := hk
              have e0 : ρ (.tmp 17) = pv bx := k0
              clear k0
              refine Par.val_k fun K hK => ?_
              unfold Par.val
              (go_simp; exact hK _ _ ⟨hR.other (by decide), rfl⟩)
            refine ⟨fun L ρ w' hR hC hL hd hk => ?_, ?_⟩
            · obtain ⟨k0, -⟩ := hk
              have e0 : ρ (.tmp 140) = Value.pointer (some ⟨bx, 1, none⟩) := k0
              clear k0
              refine Par.val_k fun K hK => ?_
              unfold Par.val
              (obtain ⟨i, hi, hq⟩ := hR.some 1 rfl (hC.notyet 13 8 hL (by kernel_rfl)); have hx := hq.ext hi; have cc := (blk3 (hx.obj HN1.out)).2.1; go_simp; exact hK _ _ ⟨hR.other (by decide), rfl⟩)
            refine ⟨fun L ρ w' hR hC hL hd hk => ?_, ?_⟩
            · obtain ⟨k0, k1, -⟩ := hk
              have e0 : ρ (.tmp 141) = Value.slice (some ra) 2 rc := k0
              have e1 : ρ (Operand.const (Value.int IntKind.i64 1)) = (Value.int IntKind.i64 1) := k1
              clear k0 k1
              refine Par.val_k fun K hK => ?_
              unfold Par.val
              (go_simp; exact hK _ _ ⟨hR.other (by decide), rfl⟩)
            refine ⟨fun L ρ w' hR hC hL hd hk => ?_, ?_⟩
            · obtain ⟨k0, -⟩ := hk
              have e0 : ρ (.tmp 142) = Value.pointer (some ⟨ra.block, ra.off + 1, none⟩) := k0
              clear k0
              refine Par.val_k fun K hK => ?_
              unfold Par.val
              (obtain ⟨i, hi, hq⟩ := hR.some 1 rfl (hC.notyet 13 10 hL (by kernel_rfl)); have hx := hq.ext hi; have c1 := hx.cell (HRC.out 1 (by decide)); rw [show ra.add 1 = ⟨ra.block, ra.off + 1, none⟩ by simp [Addr.add]] at c1; replace c1 : w'.cell? ⟨ra.block, ra.off + 1, none⟩ = some (uv b1) := c1; go_simp; exact hK _ _ ⟨hR.other (by decide), rfl⟩)
            refine ⟨fun L ρ w' hR hC hL hd hk => ?_, ?_⟩
            · obtain ⟨k0, k1, -⟩ := hk
              have e0 : ρ (.tmp 139) = uv b0 := k0
              have e1 : ρ (.tmp 143) = uv b1 := k1
              clear k0 k1
              refine Par.val_k fun K hK => ?_
              unfold Par.val
              (go_simp; exact hK _ _ ⟨hR.other (by decide), rfl⟩)
            refine ⟨fun L ρ w' hR hC hL hd hk => ?_, ?_⟩
            · obtain ⟨k0, -⟩ := hk
              have e0 : ρ (.tmp 144) = Value.agg #[uv b0, uv b1] := k0
              clear k0
              refine Par.val_k fun K hK => ?_
              unfold Par.val
              (obtain ⟨hq, hs⟩ := hR.go 0 rfl hL (.inl rfl) (by decide); have hx : Ext W1 w' := hq; go_simp; exact hK _ _ ⟨hs _ _ _ ⟨hx.trans (Ext.alloc _ _), one_row _ 75 (ddcells (b0, b1)) 2 rfl⟩, trivial⟩)
            refine ⟨fun L ρ w' hR hC hL hd hk => ?_, ?_⟩
            · obtain ⟨k0, k1, -⟩ := hk
              have e0 : ρ (.tmp 135) = Value.slice uo k uc := k0
              have e1 : (fun _ => True) (ρ (.tmp 145))  := k1
              clear k0 k1
              refine Par.val_k fun K hK => ?_
              unfold Par.val
              (obtain ⟨hq, hs⟩ := hR.go 1 rfl hL (.inr ⟨12, rfl, hC.before 12 (i := 13) rfl hd (by kernel_rfl)⟩) (by decide); obtain ⟨hx, hsl⟩ := hq; have hsl2 : Sl w' 2 (ρ (.tmp 145)) 1 (ddcells (b0, b1)) := hsl; have hown : w'.ownsRow x5.heap.size 75 2 (.slice uo k uc) PV.length (PV.flatMap ddcells) := (HS1.out.ext hx).dd; rw [HPL.out] at hown; obtain ⟨a9, c9, w9, r1, r2, r3, r4⟩ := run_append_sl (P := Tryd.prog) x5.heap.size 24 24 75 Tryd.underlying24 infoDd rfl (by decide) hown hsl2 (by intro y hy; simp [itcells, ddcells, cucells] at hy; rcases hy with rfl | rfl <;> rfl) (by have := HLK.out; have := HBD.out; have := HLN.out; simp [maxLen]; omega) (by have := HLK.out; have := HBD.out; have := HLN.out; omega) (HS1.out.ext hx).low.size; rw [← e0] at r1; exact Par.val_append r1 (hK _ _ ⟨hs _ _ _ ⟨w', hx, ⟨a9, c9, rfl⟩, r2, r3, r4⟩, trivial⟩))
            refine ⟨fun L ρ w' hR hC hL hd hk => ?_, ?_⟩
            · obtain ⟨k0, -⟩ := hk
              have e0 : ρ (.tmp 13) = pv qb := k0
              clear k0
              refine Par.val_k fun K hK => ?_
              unfold Par.val
              (go_simp; exact hK _ _ ⟨hR.other (by decide), rfl⟩)
            refine ⟨fun L ρ w' hR hC hL hd hk => ?_, ?_⟩
            · obtain ⟨k0, -⟩ := hk
              have e0 : ρ (.tmp 147) = pv qb := k0
              clear k0
              refine Par.val_k fun K hK => ?_
              unfold Par.val
              (go_simp; exact hK _ _ ⟨hR.other (by decide), rfl⟩)
            refine ⟨fun L ρ w' hR hC hL hd hk => ?_, ?_⟩
            · obtain ⟨k0, k1, -⟩ := hk
              have e0 : ρ (.tmp 148) = Value.pointer (some ⟨qb, 6, none⟩) := k0
              have e1 : (fun _ => True) (ρ (.tmp 146))  := k1
              clear k0 k1
              refine Par.val_k fun K hK => ?_
              unfold Par.val
              (obtain ⟨hq, hs⟩ := hR.go 2 rfl hL (.inr ⟨13, rfl, hC.before 13 (i := 16) rfl hd (by kernel_rfl)⟩) (by decide); obtain ⟨W2, hx, ⟨o9, c9, h33⟩, ho, hg, hb⟩ := hq; have s33 : ρ (.tmp 146) = .slice o9 (k + 1) c9 := h33; have ho2 : w'.ownsRow x5.heap.size 75 2 (ρ (.tmp 146)) (k + 1) (PV.flatMap ddcells ++ ddcells (b0, b1)) := ho; rw [s33] at ho2; obtain ⟨hL9, cc, ff⟩ := (HS1.out.ext hx).addD (b0, b1) ho2 (by simp [HPL.out]) hg hb; have HL9 := hid hL9; clear h33 ho ho2 hg hb hL9 hx; go_simp; exact hK _ _ ⟨hs none _ _ ⟨o9, c9, HL9.out⟩, trivial⟩)
            trivial
          intro a' w' inv hR
          have q133 : a'.tmps.getD 133 undef = pv qb := inv.done 0 _ 133 rfl rfl rfl
          have q134 : a'.tmps.getD 134 undef = Value.pointer (some ⟨qb, 6, none⟩) := inv.done 1 _ 134 rfl rfl rfl
          have q135 : a'.tmps.getD 135 undef = Value.slice uo k uc := inv.done 2 _ 135 rfl rfl rfl
          have q136 : a'.tmps.getD 136 undef = Value.pointer (some ⟨bx, 1, none⟩) := inv.done 3 _ 136 rfl rfl rfl
          have q137 : a'.tmps.getD 137 undef = Value.slice (some ra) 2 rc := inv.done 4 _ 137 rfl rfl rfl
          have q138 : a'.tmps.getD 138 undef = Value.pointer (some ra) := inv.done 5 _ 138 rfl rfl rfl
          have q139 : a'.tmps.getD 139 undef = uv b0 := inv.done 6 _ 139 rfl rfl rfl
          have q140 : a'.tmps.getD 140 undef = Value.pointer (some ⟨bx, 1, none⟩) := inv.done 7 _ 140 rfl rfl rfl
          have q141 : a'.tmps.getD 141 undef = Value.slice (some ra) 2 rc := inv.done 8 _ 141 rfl rfl rfl
          have q142 : a'.tmps.getD 142 undef = Value.pointer (some ⟨ra.block, ra.off + 1, none⟩) := inv.done 9 _ 142 rfl rfl rfl
          have q143 : a'.tmps.getD 143 undef = uv b1 := inv.done 10 _ 143 rfl rfl rfl
          have q144 : a'.tmps.getD 144 undef = Value.agg #[uv b0, uv b1] := inv.done 11 _ 144 rfl rfl rfl
          have q145 : (fun _ => True) (a'.tmps.getD 145 undef)  := inv.done 12 _ 145 rfl rfl rfl
          have q146 : (fun _ => True) (a'.tmps.getD 146 undef)  := inv.done 13 _ 146 rfl rfl rfl
          have q147 : a'.tmps.getD 147 undef = pv qb := inv.done 14 _ 147 rfl rfl rfl
          have q148 : a'.tmps.getD 148 undef = Value.pointer (some ⟨qb, 6, none⟩) := inv.done 15 _ 148 rfl rfl rfl
          clear inv
          simp only [List.filterMap_cons, List.filterMap_nil, Par.putAll, Act.put, List.setIfInBounds_toArray, List.set_cons_succ, List.set_cons_zero, q133, q134, q135, q136, q137, q138, q139, q140, q141, q142, q143, q144, q147, q148]
          clear q133 q134 q135 q136 q137 q138 q139 q140 q141 q142 q143 q144 q147 q148
          have hp := Rg.Ch.fin hR (by decide) 3 rfl; have HP := hid hp; clear hp hR
          generalize a'.tmps.getD 145 undef = u145 at *
          generalize a'.tmps.getD 146 undef = u146 at *
          try clear a'
          obtain ⟨o9, c9, hk2⟩ := HP.out
          have HS5 := hid hk2
          clear hk2 HP
          go_wp2
          go_roundw
          case rel => exact ⟨k + 1, o9, c9, HLK.out, by first | rfl | go_num, hid (by rw [HTL.out]; exact HS5.out)⟩
          case measure => have := HLK.out; simp [intOf]; omega
        have hkf : decide ((k : Int) < (nd : Int)) = false := by simp; omega
        have hkf2 : (k < nd) = False := by simp; omega
        obtain rfl : nd = k := by omega
        have htk : RW.take nd = RW := List.take_of_length_le (by rw [← HMD.out, List.length_map, HND.out]; omega)
        rw [htk] at HS
        have HT1 := hid HS.out
        clear hlt hk htk HS
        go_wp2
        go_loopw [152] (fun iv wr => ∃ (k : Nat) (vo : Option Addr) (vc9 : Nat), k ≤ nu ∧ iv = .int .i64 (k : Int) ∧ Hid (LdS x5 wr qb ⟨a0, a1, a2, a3, a4, LV.map liveOf, RW.map deadOf, (CU.take k).map curOf, a5, a6⟩ (.slice io nl ic) (.slice uo nd uc) (.slice vo k vc9))) (fun iv _ => nu - (intOf iv).toNat)
        case atStart => exact ⟨0, none, 0, Nat.zero_le _, rfl, hid (by simpa using HT1.out)⟩
        case round =>
          clear HT1
          obtain ⟨k, vo, vc9, hk, rfl, HS⟩ := hrel
          by_cases hlt : k < nu
          · have hkj : decide ((k : Int) < (nu : Int)) = true := by simp; omega
            have hkj2 : (k : Int) < (nu : Int) := by omega
            obtain ⟨g, rfl⟩ := HCNN.out (by omega)
            have hltL : k < mc.length := by rw [HNU.out]; exact hlt
            have hc := fun j u h => HS.out.low.cell (HCC.out g rfl k hltL j u h)
            have HTK : Hid (CU.take (k + 1) = CU.take k ++ [(mc[k]'hltL).1]) := hid (by rw [← HMC.out, ← List.map_take, ← List.map_take, List.take_succ_eq_append_getElem hltL, List.map_append]; rfl)
            have hvec := (HIC.out _ (List.getElem_mem hltL)).ext HS.out.low
            have hlen := HK3.out (mc[k]'hltL).1 (by rw [← HMC.out]; exact List.mem_map.2 ⟨_, List.getElem_mem hltL, rfl⟩)
            have hPL : ((CU.take k).map curOf).length = k := by rw [List.length_map, List.length_take, ← HMC.out, List.length_map]; omega
            obtain ⟨PV, hPV⟩ : ∃ x, (CU.take k).map curOf = x := ⟨_, rfl⟩
            rw [hPV] at HS hPL
            have HPV := hid hPV
            have HPL := hid hPL
            obtain ⟨o, ho⟩ : ∃ o, mc[k]'hltL = o := ⟨_, rfl⟩
            rw [ho] at hc hvec HTK hlen
            obtain ⟨⟨kd, ns, tx⟩, r⟩ := o
            dsimp only at hvec hlen
            obtain ⟨b0, rfl⟩ := len1_ex hlen
            have HTL : Hid (((CU.take (k + 1)).map curOf) = PV ++ [(tx, b0)]) := hid (by rw [HTK.out, List.map_append, HPV.out]; rfl)
            obtain ⟨ro, rc, rfl, hrle, hrmx, hrnn, hrc⟩ := hvec.open
            simp only [List.length_cons, List.length_nil, Nat.reduceAdd, Nat.zero_add] at hrle hrc hc hvec
            have k0 := cell_first (hc 0 _ rfl)
            have k1 := cell_next (hc 1 _ rfl) (by decide)
            have k2 := cell_next (hc 2 _ rfl) (by decide)
            dsimp only at k0 k1 k2
            obtain ⟨ra, rfl⟩ := hrnn (by omega)
            obtain ⟨W1, hW1⟩ : ∃ W, wr.alloc (.cells #[.int .i64 kd, .slice (some ra) 1 rc, .string (str tx)] 62 (0, 0)) = W := ⟨_, rfl⟩
            have hE1 := Ext.alloc wr (.cells #[.int .i64 kd, .slice (some ra) 1 rc, .string (str tx)] 62 (0, 0))
            have hn1 := heap_alloc_new wr (.cells #[.int .i64 kd, .slice (some ra) 1 rc, .string (str tx)] 62 (0, 0))
            rw [hW1] at hE1 hn1
            have y0 : W1.cell? ⟨wr.heap.size, 0, none⟩ = some (.int .i64 kd) := by rw [cell_of_row _ _ _ _ _ _ hn1]; rfl
            have y1 : W1.cell? ⟨wr.heap.size, 1, none⟩ = some (.slice (some ra) 1 rc) := by rw [cell_of_row _ _ _ _ _ _ hn1]; rfl
            have y2 : W1.cell? ⟨wr.heap.size, 2, none⟩ = some (.string (str tx)) := by rw [cell_of_row _ _ _ _ _ _ hn1]; rfl
            have HS1 := hid (HS.out.ext hE1)
            have HVC := hid (hvec.ext hE1)
            have HRC : Hid (∀ j (hj : j < 1), W1.cell? (ra.add j) = some (uv ([b0][j]'hj))) := hid (fun j hj => hE1.cell (hrc ra rfl j (by simpa using hj)))
            have HN1 := hid hn1
            have HLK := hid hlt
            have hbd := HBD.out.2.2
            have hwk : IntKind.i64.wrap ((k : Int) + 1) = ((k + 1 : Nat) : Int) := i64v _ (by omega) (by have := HLN.out; omega)
            clear hc ho hE1 hn1 hltL hlt HS hvec hrnn hrc hrle hrmx hPV hPL hlen hbd
            go_wp2_with rw [hW1]
            clear k0 k1 k2 y0 y1 y2 hW1 hkj
            obtain ⟨bx, hbx⟩ : ∃ b, wr.heap.size = b := ⟨_, rfl⟩
            rw [hbx] at HN1
            try rw [hbx]
            clear hbx
            refine ParE.wp_region_e (l := [_, _, _, _, _, _, _, _, _, _, _, _, _, _, _]) rfl (Rg.Ch [10, 11, 14] [166, 167] (LdApQ W1 166 167 2 (cucells (tx, b0)) x5.heap.size 77 (k + 1) (.slice vo k vc9) (PV.flatMap cucells ++ cucells (tx, b0)) (fun w' => ∃ o9 c9, LdS x5 w' qb ⟨a0, a1, a2, a3, a4, LV.map liveOf, RW.map deadOf, PV ++ [(tx, b0)], a5, a6⟩ (.slice io nl ic) (.slice uo nd uc) (.slice o9 (k + 1) c9)))) (ParC.VC [ParC.EQ (pv qb), ParC.EQ (Value.pointer (some ⟨qb, 7, none⟩)), ParC.EQ (Value.slice vo k vc9), ParC.EQ (Value.pointer (some ⟨bx, 2, none⟩)), ParC.EQ (Value.string (str tx)), ParC.EQ (Value.pointer (some ⟨bx, 1, none⟩)), ParC.EQ (Value.slice (some ra) 1 rc), ParC.EQ (Value.pointer (some ra)), ParC.EQ (uv b0), ParC.EQ (Value.agg #[.string (str tx), uv b0]), (fun _ => True), (fun _ => True), ParC.EQ (pv qb), ParC.EQ (Value.pointer (some ⟨qb, 7, none⟩)), fun _ => True]) (by kernel_rfl) (by kernel_rfl) (Rg.Ch.start (Ext.draw _)) ?_ ?_
            · refine ⟨fun L ρ w' hR hC hL hd hk => ?_, ?_⟩
              · obtain ⟨k0, -⟩ := hk
                have e0 : ρ (.tmp 13) = pv qb := k0
                clear k0
                refine Par.val_k fun K hK => ?_
                unfold Par.val
                (go_simp; exact hK _ _ ⟨hR.other (by decide), rfl⟩)
              refine ⟨fun L ρ w' hR hC hL hd hk => ?_, ?_⟩
              · obtain ⟨k0, -⟩ := hk
                have e0 : ρ (.tmp 156) = pv qb := k0
                clear k0
                refine Par.val_k fun K hK => ?_
                unfold Par.val
                (go_simp; exact hK _ _ ⟨hR.other (by decide), rfl⟩)
              refine ⟨fun L ρ w' hR hC hL hd hk => ?_, ?_⟩
              · obtain ⟨k0, -⟩ := hk
                have e0 : ρ (.tmp 157) = Value.pointer (some ⟨qb, 7, none⟩) := k0
                clear k0
                refine Par.val_k fun K hK => ?_
                unfold Par.val
                (obtain ⟨i, hi, hq⟩ := hR.some 1 rfl (hC.notyet 11 2 hL (by kernel_rfl)); have hx := hq.ext hi; obtain ⟨⟨-, -, -, -, -, -, -, cc, -, -⟩, -⟩ := blk10 (HS1.out.ext hx).box; go_simp; exact hK _ _ ⟨hR.other (by decide), rfl⟩)
              refine ⟨fun L ρ w' hR hC hL hd hk => ?_, ?_⟩
              · obtain ⟨k0, -⟩ := hk
                have e0 : ρ (.tmp 19) = pv bx := k0
                clear k0
                refine Par.val_k fun K hK => ?_
                unfold Par.val
                (go_simp; exact hK _ _ ⟨hR.other (by decide), rfl⟩)
              refine ⟨fun L ρ w' hR hC hL hd hk => ?_, ?_⟩
              · obtain ⟨k0, -⟩ := hk
                have e0 : ρ (.tmp 159) = Value.pointer (some ⟨bx, 2, none⟩) := k0
                clear k0
                refine Par.val_k fun K hK => ?_
                unfold Par.val
                (obtain ⟨i, hi, hq⟩ := hR.some 1 rfl (hC.notyet 11 4 hL (by kernel_rfl)); have hx := hq.ext hi; have cc := (blk3 (hx.obj HN1.out)).2.2; go_simp; exact hK _ _ ⟨hR.other (by decide), rfl⟩)
              refine ⟨fun L ρ w' hR hC hL hd hk => ?_, ?_⟩
              · obtain ⟨k0, -⟩ := hk
                have e0 : ρ (.tmp 19) = pv bx := k0
                clear k0
                refine Par.val_k fun K hK => ?_
                unfold Par.val
                (go_simp; exact hK _ _ ⟨hR.other (by decide), rfl⟩)
              refine ⟨fun L ρ w' hR hC hL hd hk => ?_, ?_⟩
              · obtain ⟨k0, -⟩ := hk
                have e0 : ρ (.tmp 161) = Value.pointer (some ⟨bx, 1, none⟩) := k0
                clear k0
                refine Par.val_k fun K hK => ?_
                unfold Par.val
                (obtain ⟨i, hi, hq⟩ := hR.some 1 rfl (hC.notyet 11 6 hL (by kernel_rfl)); have hx := hq.ext hi; have cc := (blk3 (hx.obj HN1.out)).2.1; go_simp; exact hK _ _ ⟨hR.other (by decide), rfl⟩)
              refine ⟨fun L ρ w' hR hC hL hd hk => ?_, ?_⟩
              · obtain ⟨k0, k1, -⟩ := hk
                have e0 : ρ (.tmp 162) = Value.slice (some ra) 1 rc := k0
                have e1 : ρ (Operand.const (Value.int IntKind.i64 0)) = (Value.int IntKind.i64 0) := k1
                clear k0 k1
                refine Par.val_k fun K hK => ?_
                unfold Par.val
                (go_simp; exact hK _ _ ⟨hR.other (by decide), rfl⟩)
              refine ⟨fun L ρ w' hR hC hL hd hk => ?_, ?_⟩
              · obtain ⟨k0, -⟩ := hk
                have e0 : ρ (.tmp 163) = Value.pointer (some ra) := k0
                clear k0
                refine Par.val_k fun K hK => ?_
                unfold Par.val
                (obtain ⟨i, hi, hq⟩ := hR.some 1 rfl (hC.notyet 11 8 hL (by kernel_rfl)); have hx := hq.ext hi; have c0 := hx.cell (HRC.out 0 (by decide)); rw [show ra.add 0 = ra by simp [Addr.add]] at c0; replace c0 : w'.cell? ra = some (uv b0) := c0; go_simp; exact hK _ _ ⟨hR.other (by decide), rfl⟩)
              refine ⟨fun L ρ w' hR hC hL hd hk => ?_, ?_⟩
              · obtain ⟨k0, k1, -⟩ := hk
                have e0 : ρ (.tmp 160) = Value.string (str tx) := k0
                have e1 : ρ (.tmp 164) = uv b0 := k1
                clear k0 k1
                refine Par.val_k fun K hK => ?_
                unfold Par.val
                (go_simp; exact hK _ _ ⟨hR.other (by decide), rfl⟩)
              refine ⟨fun L ρ w' hR hC hL hd hk => ?_, ?_⟩
              · obtain ⟨k0, -⟩ := hk
                have e0 : ρ (.tmp 165) = Value.agg #[.string (str tx), uv b0] := k0
                clear k0
                refine Par.val_k fun K hK => ?_
                unfold Par.val
                (obtain ⟨hq, hs⟩ := hR.go 0 rfl hL (.inl rfl) (by decide); have hx : Ext W1 w' := hq; go_simp; exact hK _ _ ⟨hs _ _ _ ⟨hx.trans (Ext.alloc _ _), one_row _ 77 (cucells (tx, b0)) 2 rfl⟩, trivial⟩)
              refine ⟨fun L ρ w' hR hC hL hd hk => ?_, ?_⟩
              · obtain ⟨k0, k1, -⟩ := hk
                have e0 : ρ (.tmp 158) = Value.slice vo k vc9 := k0
                have e1 : (fun _ => True) (ρ (.tmp 166))  := k1
                clear k0 k1
                refine Par.val_k fun K hK => ?_
                unfold Par.val
                (obtain ⟨hq, hs⟩ := hR.go 1 rfl hL (.inr ⟨10, rfl, hC.before 10 (i := 11) rfl hd (by kernel_rfl)⟩) (by decide); obtain ⟨hx, hsl⟩ := hq; have hsl2 : Sl w' 2 (ρ (.tmp 166)) 1 (cucells (tx, b0)) := hsl; have hown : w'.ownsRow x5.heap.size 77 2 (.slice vo k vc9) PV.length (PV.flatMap cucells) := (HS1.out.ext hx).cu; rw [HPL.out] at hown; obtain ⟨a9, c9, w9, r1, r2, r3, r4⟩ := run_append_sl (P := Tryd.prog) x5.heap.size 25 25 77 Tryd.underlying25 infoCu rfl (by decide) hown hsl2 (by intro y hy; simp [itcells, ddcells, cucells] at hy; rcases hy with rfl | rfl <;> rfl) (by have := HLK.out; have := HBD.out; have := HLN.out; simp [maxLen]; omega) (by have := HLK.out; have := HBD.out; have := HLN.out; omega) (HS1.out.ext hx).low.size; rw [← e0] at r1; exact Par.val_append r1 (hK _ _ ⟨hs _ _ _ ⟨w', hx, ⟨a9, c9, rfl⟩, r2, r3, r4⟩, trivial⟩))
              refine ⟨fun L ρ w' hR hC hL hd hk => ?_, ?_⟩
              · obtain ⟨k0, -⟩ := hk
                have e0 : ρ (.tmp 13) = pv qb := k0
                clear k0
                refine Par.val_k fun K hK => ?_
                unfold Par.val
                (go_simp; exact hK _ _ ⟨hR.other (by decide), rfl⟩)
              refine ⟨fun L ρ w' hR hC hL hd hk => ?_, ?_⟩
              · obtain ⟨k0, -⟩ := hk
                have e0 : ρ (.tmp 168) = pv qb := k0
                clear k0
                refine Par.val_k fun K hK => ?_
                unfold Par.val
                (go_simp; exact hK _ _ ⟨hR.other (by decide), rfl⟩)
              refine ⟨fun L ρ w' hR hC hL hd hk => ?_, ?_⟩
              · obtain ⟨k0, k1, -⟩ := hk
                have e0 : ρ (.tmp 169) = Value.pointer (some ⟨qb, 7, none⟩) := k0
                have e1 : (fun _ => True) (ρ (.tmp 167))  := k1
                clear k0 k1
                refine Par.val_k fun K hK => ?_
                unfold Par.val
                (obtain ⟨hq, hs⟩ := hR.go 2 rfl hL (.inr ⟨11, rfl, hC.before 11 (i := 14) rfl hd (by kernel_rfl)⟩) (by decide); obtain ⟨W2, hx, ⟨o9, c9, h33⟩, ho, hg, hb⟩ := hq; have s33 : ρ (.tmp 167) = .slice o9 (k + 1) c9 := h33; have ho2 : w'.ownsRow x5.heap.size 77 2 (ρ (.tmp 167)) (k + 1) (PV.flatMap cucells ++ cucells (tx, b0)) := ho; rw [s33] at ho2; obtain ⟨hL9, cc, ff⟩ := (HS1.out.ext hx).addC (tx, b0) ho2 (by simp [HPL.out]) hg hb; have HL9 := hid hL9; clear h33 ho ho2 hg hb hL9 hx; go_simp; exact hK _ _ ⟨hs none _ _ ⟨o9, c9, HL9.out⟩, trivial⟩)
              trivial
            intro a' w' inv hR
            have q156 : a'.tmps.getD 156 undef = pv qb := inv.done 0 _ 156 rfl rfl rfl
            have q157 : a'.tmps.getD 157 undef = Value.pointer (some ⟨qb, 7, none⟩) := inv.done 1 _ 157 rfl rfl rfl
            have q158 : a'.tmps.getD 158 undef = Value.slice vo k vc9 := inv.done 2 _ 158 rfl rfl rfl
            have q159 : a'.tmps.getD 159 undef = Value.pointer (some ⟨bx, 2, none⟩) := inv.done 3 _ 159 rfl rfl rfl
            have q160 : a'.tmps.getD 160 undef = Value.string (str tx) := inv.done 4 _ 160 rfl rfl rfl
            have q161 : a'.tmps.getD 161 undef = Value.pointer (some ⟨bx, 1, none⟩) := inv.done 5 _ 161 rfl rfl rfl
            have q162 : a'.tmps.getD 162 undef = Value.slice (some ra) 1 rc := inv.done 6 _ 162 rfl rfl rfl
            have q163 : a'.tmps.getD 163 undef = Value.pointer (some ra) := inv.done 7 _ 163 rfl rfl rfl
            have q164 : a'.tmps.getD 164 undef = uv b0 := inv.done 8 _ 164 rfl rfl rfl
            have q165 : a'.tmps.getD 165 undef = Value.agg #[.string (str tx), uv b0] := inv.done 9 _ 165 rfl rfl rfl
            have q166 : (fun _ => True) (a'.tmps.getD 166 undef)  := inv.done 10 _ 166 rfl rfl rfl
            have q167 : (fun _ => True) (a'.tmps.getD 167 undef)  := inv.done 11 _ 167 rfl rfl rfl
            have q168 : a'.tmps.getD 168 undef = pv qb := inv.done 12 _ 168 rfl rfl rfl
            have q169 : a'.tmps.getD 169 undef = Value.pointer (some ⟨qb, 7, none⟩) := inv.done 13 _ 169 rfl rfl rfl
            clear inv
            simp only [List.filterMap_cons, List.filterMap_nil, Par.putAll, Act.put, List.setIfInBounds_toArray, List.set_cons_succ, List.set_cons_zero, q156, q157, q158, q159, q160, q161, q162, q163, q164, q165, q168, q169]
            clear q156 q157 q158 q159 q160 q161 q162 q163 q164 q165 q168 q169
            have hp := Rg.Ch.fin hR (by decide) 3 rfl; have HP := hid hp; clear hp hR
            generalize a'.tmps.getD 166 undef = u166 at *
            generalize a'.tmps.getD 167 undef = u167 at *
            try clear a'
            obtain ⟨o9, c9, hk2⟩ := HP.out
            have HS5 := hid hk2
            clear hk2 HP
            go_wp2
            go_roundw
            case rel => exact ⟨k + 1, o9, c9, HLK.out, by first | rfl | go_num, hid (by rw [HTL.out]; exact HS5.out)⟩
            case measure => have := HLK.out; simp [intOf]; omega
          have hkf : decide ((k : Int) < (nu : Int)) = false := by simp; omega
          have hkf2 : (k < nu) = False := by simp; omega
          obtain rfl : nu = k := by omega
          have htk : CU.take nu = CU := List.take_of_length_le (by rw [← HMC.out, List.length_map, HNU.out]; omega)
          rw [htk] at HS
          have HT2 := hid HS.out
          clear hlt hk htk HS
          have HSM : Hid (LdSm l ⟨a0, a1, a2, a3, a4, LV.map liveOf, RW.map deadOf, CU.map curOf, a5, a6⟩ (rightS ⟨a0, a1, a2, a3, a4, LV.map liveOf, RW.map deadOf, CU.map curOf, a5, a6⟩)) := hid (by
            unfold LdSm
            have h5 : ¬ (([⟨kb, [a0, a1, a2, a3, a4, a5, a6], txb⟩] : List Rc).length ≠ 1 ∨ ([⟨ke, [ye], txe⟩] : List Rc).length ≠ 1 ∨ 0 < L5.length ∨ nAt (([⟨ke, [ye], txe⟩] : List Rc).getD 0 r0) 0 ≠ UInt64.ofNat (l.length - 1)) := by
              rintro (h | h | h | h)
              · exact h rfl
              · exact h rfl
              · have := HF0.out; omega
              · exact h HKK.out.symm
            unfold loadR
            rw [if_neg (by rw [List.all_eq_true.2 HALL.out]; decide)]
            simp only [HDL.out.1, HDL.out.2.1, HDL.out.2.2.1, HDL.out.2.2.2.1, HDL.out.2.2.2.2, HKB.out, HKE.out, HTW.out.1, HTW.out.2.1, HTW.out.2.2]
            rw [if_neg h5]
            rfl)
          have hbox : wr.heap[qb]? = some (.cells #[uv a0, uv a1, uv a2, uv a3, uv a4, .slice io nl ic, .slice uo nd uc, .slice vo nu vc9, uv a5, uv a6] 29 (0, 0)) := HT2.out.box
          have HBX := hid hbox
          obtain ⟨⟨g0, g1, g2, g3, g4, g5, g6, g7, g8, g9⟩, -⟩ := blk10 hbox
          have hc : Calls Tryd.prog 22 #[.agg #[uv a0, uv a1, uv a2, uv a3, uv a4, .slice io nl ic, .slice uo nd uc, .slice vo nu vc9, uv a5, uv a6]] wr fun e w' => e = .returned (.bool (rightS ⟨a0, a1, a2, a3, a4, LV.map liveOf, RW.map deadOf, CU.map curOf, a5, a6⟩)) ∧ Ext wr w' := sright_any ⟨a0, a1, a2, a3, a4, LV.map liveOf, RW.map deadOf, CU.map curOf, a5, a6⟩ (.slice io nl ic) (.slice uo nd uc) (.slice vo nu vc9) wr HT2.out.snp
          obtain ⟨R, hR⟩ : ∃ R, rightS ⟨a0, a1, a2, a3, a4, LV.map liveOf, RW.map deadOf, CU.map curOf, a5, a6⟩ = R := ⟨_, rfl⟩
          rw [hR] at hc HSM
          have HC := hid hc
          have HXW := hid (HX5.out.trans HT2.out.low)
          have HLT0 : Hid (w.heap.size < x5.heap.size) := hid (Nat.lt_of_lt_of_le (Array.getElem?_eq_some_iff.1 HB0.out).1 HX5.out.size)
          clear hc hR hbox
          go_wp2_with fail
          clear g0 g1 g2 g3 g4 g5 g6 g7 g8 g9 hkf hkf2
          refine HC.out.mono ?_
          rintro e w8 ⟨rfl, hx⟩
          have HX8 := hid (HXW.out.trans hx)
          have HT8 := hid (HT2.out.ext hx)
          have HB8 := hid (hx.obj HBX.out)
          have HR8 := hid (HX8.out.obj HB0.out)
          clear hx HC
          cases R
          case false =>
            go_simp
            iterate 13 (first | go_values | go_skip | go_guarded | go_step | go_upon | go_in | go_back | (simp only [Int.not_lt, Int.not_le] at *; go_simp))
            refine wpList_store_row rfl 29 (.tmp 2) (.tmp 174) rfl w.heap.size #[.int .u64 0, .int .u64 0, .int .u64 0, .int .u64 0, .int .u64 0, .slice none 0 0, .slice none 0 0, .slice none 0 0, .int .u64 0, .int .u64 0] rfl rfl 29 _ HR8.out (by kernel_rfl) rfl (by simp [Value.oneCell']) ?_
            iterate 8 (first | go_values | go_skip | go_guarded | go_step | go_upon | go_in | go_back | (simp only [Int.not_lt, Int.not_le] at *; go_simp))
            refine bodyPost_ret (ld_results _ _ w.heap.size _ _ _ _ _ _ _ _ _ _ 2 rfl rfl (setRow_heap _ _ _ _ _ _ HR8.out)) rfl ?_
            exact LdP.no (HSM.out : loadR l = none) ((HE0.out.trans HX8.out).below ((setRow_frS _ _ _).below (by simp) (HE0.out.trans HX8.out).size))
          case true =>
            go_simp
            iterate 13 (first | go_values | go_skip | go_guarded | go_step | go_upon | go_in | go_back | (simp only [Int.not_lt, Int.not_le] at *; go_simp))
            refine wpList_load_row rfl 29 (.tmp 13) rfl qb rfl 29 #[uv a0, uv a1, uv a2, uv a3, uv a4, .slice io nl ic, .slice uo nd uc, .slice vo nu vc9, uv a5, uv a6] (0, 0) _ HB8.out Tryd.underlying29 rfl (by kernel_rfl) ?_
            refine wpList_store_row rfl 29 (.tmp 2) (.tmp 175) rfl w.heap.size #[uv a0, uv a1, uv a2, uv a3, uv a4, .slice io nl ic, .slice uo nd uc, .slice vo nu vc9, uv a5, uv a6] rfl rfl 29 _ HR8.out (by kernel_rfl) rfl (by simp [Value.oneCell']) ?_
            iterate 7 (first | go_values | go_skip | go_guarded | go_step | go_upon | go_in | go_back | (simp only [Int.not_lt, Int.not_le] at *; go_simp))
            refine bodyPost_ret (ld_results _ _ w.heap.size _ _ _ _ _ _ _ _ _ _ 0 rfl rfl (setRow_heap _ _ _ _ _ _ HR8.out)) rfl ?_
            have hsm : loadR l = some ⟨a0, a1, a2, a3, a4, LV.map liveOf, RW.map deadOf, CU.map curOf, a5, a6⟩ := HSM.out
            unfold LdP
            rw [hsm]
            exact ⟨⟨_, _, _, rfl, HT8.out.frB (setRow_frS _ _ _) (by simp; exact HLT0.out)⟩, (HE0.out.trans HX8.out).below ((setRow_frS _ _ _).below (by simp) (HE0.out.trans HX8.out).size)⟩
end Go.Proofs.YtpbmbjdiilnaeaaDoor

