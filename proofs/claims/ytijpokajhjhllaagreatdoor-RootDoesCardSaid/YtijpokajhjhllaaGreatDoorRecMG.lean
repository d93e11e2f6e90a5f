/- The document's records: Right, Bytes.
The document's records: Read.
The document's records: Same; the statement's own.
The document's records: All. -/
import Derived.Test.YtijpokajhjhllaaGreatDoorRecMA
import Derived.Test.YtijpokajhjhllaaGreatDoorRecMT
import Derived.Test.YtijpokajhjhllaaGreatDoorFrmMD
import Derived.Lib.ConvBytes
namespace Go.Proofs.YtijpokajhjhllaaGreatDoor
open Go.RowKit Go.Tum Go.Tum.Crc Go.Tum.Vint

theorem rread5_results (tmps : Array Value) (w : World) (B : Nat) (p q s : Value) (h2 : tmps.getD 2 undef = .pointer (some ⟨B, 0, none⟩)) (m0 : w.cell? ⟨B, 0, none⟩ = some p) (m1 : w.cell? ⟨B, 1, none⟩ = some q) (m2 : w.cell? ⟨B, 2, none⟩ = some s) :
    (results Tryz.f88 tmps).run Tryz.prog w = .ok (.tuple #[.agg #[p, q, s], tmps.getD 3 undef]) w := by
  have h2' : tmps[2]?.getD undef = .pointer (some ⟨B, 0, none⟩) := by simpa using h2
  simp [results, Tryz.results88, go_sem, h2', m0, m1, m2]

theorem blk2f {w : World} {b : Nat} {p q : Value} {ty : TypeId} (h : w.heap[b]? = some (.cells #[p, q] ty (0, 0))) :
    w.cell? ⟨b, 0, none⟩ = some p ∧ w.cell? ⟨b, 1, none⟩ = some q := ⟨(blk2 h).1, (blk2 h).2.1⟩
theorem rmany_no {k : Int} (h : knownB k = false) : rmany k = -1 := by unfold rmany; rw [h]; rfl
theorem rmany_yes {k : Int} {m : Nat} (h : knownB k = true) (hm : many k = m) : rmany k = (m : Int) := by unfold rmany; rw [h, hm]; rfl

set_option maxRecDepth 100000 in
set_option maxHeartbeats 1000000 in
theorem rread5_any (x : Fr) (v : Value) (w : World) (hb : Byt w v x.body) :
    Calls Tryz.prog 88 #[fv x v] w (ReadR5 31 w x) := by
  obtain ⟨ao, cap, rfl, hbc1, hbc2, hbn, -⟩ := hb.open
  obtain ⟨kind, body⟩ := x
  replace hbc1 : body.length ≤ cap := hbc1
  replace hb : Byt w (.slice ao body.length cap) body := hb
  have HB := hid hb
  clear hb hbn
  have hbl : body.length ≤ 9223372036854775807 := by omega
  obtain ⟨KB, hKB⟩ : ∃ KB, knownB (kind.toNat : Int) = KB := ⟨_, rfl⟩
  have HKB := hid hKB
  clear hKB
  have hkl := kind.toNat_lt
  have hwk : wrap64 (kind.toNat : Int) = (kind.toNat : Int) := IntWalk.wrap64_in _ ⟨by omega, by omega⟩
  have hB1 : ((w.alloc (.cells #[.int .u8 (kind.toNat : Int), .slice ao body.length cap] 119)).alloc (.cells #[.int .i64 0, .slice none 0 0, .string ⟨#[]⟩] 82)).heap[w.heap.size + 1]? = some (.cells #[.int .i64 0, .slice none 0 0, .string ⟨#[]⟩] 82 (0, 0)) := by
    have := heap_alloc_new (w.alloc (.cells #[.int .u8 (kind.toNat : Int), .slice ao body.length cap] 119)) (.cells #[.int .i64 0, .slice none 0 0, .string ⟨#[]⟩] 82)
    simpa using this
  go_enter Tryz.func88, Tryz.ntmps88
  go_wp2_with fail
  have hE1 := Ext.alloc w (.cells #[.int .u8 (kind.toNat : Int), .slice ao body.length cap] 119)
  have hB0 := heap_alloc_new w (.cells #[.int .u8 (kind.toNat : Int), .slice ao body.length cap] 119)
  have hS1 : (w.alloc (.cells #[.int .u8 (kind.toNat : Int), .slice ao body.length cap] 119)).heap.size = w.heap.size + 1 := by simp
  generalize w.alloc (.cells #[.int .u8 (kind.toNat : Int), .slice ao body.length cap] 119) = W1 at *
  have hE2 := Ext.alloc W1 (.cells #[.int .i64 0, .slice none 0 0, .string ⟨#[]⟩] 82)
  have hS2 : (W1.alloc (.cells #[.int .i64 0, .slice none 0 0, .string ⟨#[]⟩] 82)).heap.size = w.heap.size + 1 + 1 := by simp [hS1]
  generalize W1.alloc (.cells #[.int .i64 0, .slice none 0 0, .string ⟨#[]⟩] 82) = W2 at *
  replace hB0 := hE2.obj hB0
  refine (rmany_any (kind.toNat : Int) _).mono ?_
  rintro e W3 ⟨rfl, hw⟩
  have HE := hid (hE1.trans (hE2.trans hw))
  have hsz3 : w.heap.size + 2 ≤ W3.heap.size := by have := hw.size; omega
  replace hB0 := hw.obj hB0
  replace hB1 := hw.obj hB1
  clear hE1 hE2 hS1 hS2 hw
  cases KB with
  | false =>
    rw [rmany_no HKB.out]
    have HR := hid (recRead_none (b := body) HKB.out)
    obtain ⟨k0, k1, k2, k3, k4, k5⟩ := blk3f hB1
    have hB1' := Go.Joins.block_setCell (i := 2) (Go.Joins.block_setCell (i := 1) (Go.Joins.block_setCell (i := 0) hB1 (.int .i64 0)) (.slice none 0 0)) (.string ⟨#[]⟩)
    clear hB1 hB0
    go_wp2
    obtain ⟨m0, m1, m2, -⟩ := blk3f hB1'
    refine bodyPost_ret (rread5_results _ _ _ _ _ _ rfl m0 m1 m2) rfl ?_
    unfold ReadR5
    rw [HR.out]
    have hE := HE.out
    exact ⟨.slice none 0 0, rfl, World.ownsRow_nil _ _ _ _, by (repeat' (first | (with_reducible exact Below.refl _ _) | (with_reducible assumption) | (with_reducible refine Below.alloc ?_ ?_ _) | (with_reducible refine Below.drew ?_) | (with_reducible refine Below.setCell ?_ ?_ _) | (refine Go.Tum.Ext.trans ?_ (by with_reducible assumption)) | go_size))⟩
  | true =>
    have HR := hid (recRead_some (b := body) HKB.out)
    obtain ⟨m, hmm⟩ : ∃ m, many (kind.toNat : Int) = m := ⟨_, rfl⟩
    have hm10 : m ≤ 10 := by rw [← hmm]; exact many_le _
    rw [rmany_yes HKB.out hmm]
    have HMM := hid hmm
    clear hmm
    have hmd : decide ((m : Int) < 0) = false := by simp
    obtain ⟨j0, j1⟩ := blk2f hB0
    have hE3 := Ext.alloc W3 (.cells #[.int .i64 (kind.toNat : Int), .slice none 0 0, .string ⟨#[]⟩] 82)
    have HS4 := hid (show (W3.alloc (.cells #[.int .i64 (kind.toNat : Int), .slice none 0 0, .string ⟨#[]⟩] 82)).heap.size = W3.heap.size + 1 by simp)
    have HB2 := hid (heap_alloc_new W3 (.cells #[.int .i64 (kind.toNat : Int), .slice none 0 0, .string ⟨#[]⟩] 82))
    have HB0 := hid (hE3.obj hB0)
    have HB1 := hid (hE3.obj hB1)
    have HE4 := hid (HE.out.trans hE3)
    clear hB0 hB1 hE3
    go_wp2
    clear j0 j1 hmd
    generalize W3.alloc (.cells #[.int .i64 (kind.toNat : Int), .slice none 0 0, .string ⟨#[]⟩] 82) = W4 at *
    obtain ⟨c, hc⟩ : ∃ c, W3.heap.size = c := ⟨_, rfl⟩
    rw [hc] at HB2 HS4 hsz3 ⊢
    clear hc HE
    go_loopw [6, 7] (fun ai i wr => ∃ (k at_ : Nat) (acc : List UInt64) (bo : Option Addr) (bc : Nat), k ≤ m ∧ i = .int .i64 k ∧ ai = .int .i64 at_ ∧ at_ ≤ body.length ∧ Hid (acc.length = k) ∧ Hid (GR m k body acc (body.drop at_)) ∧ Hid (OwV uv wr (c + 1) 31 (.slice bo k bc) acc) ∧
      Hid (wr.heap[w.heap.size]? = some (.cells #[.int .u8 (kind.toNat : Int), .slice ao body.length cap] 119 (0, 0))) ∧
      Hid (wr.heap[w.heap.size + 1]? = some (.cells #[.int .i64 0, .slice none 0 0, .string ⟨#[]⟩] 82 (0, 0))) ∧ Hid (wr.heap[c]? = some (.cells #[.int .i64 (kind.toNat : Int), .slice bo k bc, .string ⟨#[]⟩] 82 (0, 0))) ∧ Hid (Ext w wr) ∧ Hid (c + 1 ≤ wr.heap.size)) (fun _ i _ => m - (intOf i).toNat)
    case atStart =>
      exact ⟨0, 0, [], none, 0, by omega, rfl, rfl, by omega, rfl, GR.start _ _, World.ownsRow_nil _ _ _ _, HB0, HB1, HB2, HE4, by show _ ≤ _; have := HS4.out; omega⟩
    case round =>
      obtain ⟨k, at_, acc, bo, bc, hk, rfl, rfl, hat, HA, HG, HO, HB0, HB1, HB2, HE, HSZ⟩ := hrel
      obtain ⟨j0, j1⟩ := blk2f HB0.out
      obtain ⟨i0, i1, i2, i3, i4, i5⟩ := blk3f HB1.out
      obtain ⟨k0, k1, k2, k3, k4, k5⟩ := blk3f HB2.out
      have hsz0 : c + 1 ≤ wr.heap.size := HSZ.out
      have HDR := hid fun ao' hao kk cc hk hc => Vec.drop (f := bv) HB.out at_ hat ao' hao kk cc hk hc
      have hIat : (at_ : Int) ≤ body.length := by omega
      by_cases hlt : k < m
      · obtain ⟨n, u, e, hv⟩ : ∃ n u e, vget (body.drop at_) = (n, u, e) := ⟨_, _, _, rfl⟩
        have HV := hid hv
        clear hv
        by_cases hca : cap = at_
        · subst hca
          go_wp2_with fail
          refine (rget_any _ (body.drop cap) _ ((HDR.out ao (by simp) 0 0 (by omega) (by omega)).ext HE.out)).mono ?_
          rintro e w1 ⟨rfl, rfl⟩
          rw [HV.out]
          by_cases he : e = 0
          · subst he
            have hok := vget_ok HV.out
            have hus := vget_used HV.out
            have hn := hok.1
            have hul : cap + u ≤ body.length := by have := hus.2; rw [List.length_drop] at this; omega
            have hstep := HG.out.step hlt (by rw [HV.out])
            rw [HV.out] at hstep
            simp only [List.drop_drop] at hstep
            have HS := hid hstep
            clear hok hus hstep
            have hE1 := Ext.alloc wr (.cells #[.int .u64 (n : Int)] 31)
            have hS1 : wr.heap.size + 1 = (wr.alloc (.cells #[.int .u64 (n : Int)] 31)).heap.size := by simp
            have hV1 := Vec.one (f := uv) wr 31 (.int .u64 (n : Int)) (UInt64.ofNat n) (by simp [uv]; omega)
            have HO1 := hid (HO.out.ext hE1)
            have HE1 := hid (HE.out.trans hE1)
            have HB3 := hid (hE1.obj HB0.out)
            have HB4 := hid (hE1.obj HB1.out)
            have HB5 := hid (hE1.obj HB2.out)
            have HV1 := hid hV1
            clear hE1 hV1 i0 i1 i2 i3 i4 i5
            go_wp2_with (at_builtin; refine wpList_append_vec uv_one rfl (.tmp 41) (.tmp 43) 75 rfl (c + 1) 31 Tryz.underlying75 info64 rfl rfl HO1.out rfl HV1.out (k + 1) (by rw [HA.out]; rfl) (by omega) (by omega) (by omega) ?_; intro ao2 cap2 w2 hown2 hg2 hb2; obtain ⟨p0, p1, p2, p3, p4, p5⟩ := blk3f (below_obj hb2 (by omega) HB5.out); obtain ⟨HOW, HBE⟩ := And.intro (hid hown2) (hid hb2); clear hown2 hg2 hb2)
            go_roundw
            case rel =>
              have hb0 := below_obj HBE.out (by omega) HB3.out
              have hb1 := below_obj HBE.out (by omega) HB4.out
              have hb2 := Go.Joins.block_setCell (i := 1) (below_obj HBE.out (by omega) HB5.out) (.slice ao2 (k + 1) cap2)
              have hE := Below.trans HE1.out (HBE.out.mono (by omega))
              have hsz2 := HBE.out.size
              refine ⟨k + 1, cap + u, acc ++ [UInt64.ofNat n], ao2, cap2, by omega, by go_num, by go_num, by omega, hid (by simp [HA.out]), HS, owv_setLow HOW.out _ _ (by dsimp only; omega), hid ?_, hid ?_, hid hb2, Below.setCell hE (by dsimp only; omega) _, hid (by simp; omega)⟩
              · rw [heap_setCell_other _ _ _ _ (by dsimp only; omega)]; exact hb0
              · rw [heap_setCell_other _ _ _ _ (by dsimp only; omega)]; exact hb1
            case measure => simp [intOf]; omega
          · have hne : ((e : Int) != 0) = true := by rw [bne_iff_ne]; omega
            have hg := HG.out.err hlt (by rw [HV.out]; exact he)
            rw [HV.out, ← HMM.out] at hg
            have hR := HR.out
            rw [hg, if_pos he] at hR
            have HR2 := hid hR
            clear hg hR
            have hB1' := Go.Joins.block_setCell (i := 2) (Go.Joins.block_setCell (i := 1) (Go.Joins.block_setCell (i := 0) HB1.out (.int .i64 0)) (.slice none 0 0)) (.string ⟨#[]⟩)
            go_wp2
            obtain ⟨m0, m1, m2, -⟩ := blk3f hB1'
            refine bodyPost_ret (rread5_results _ _ _ _ _ _ rfl m0 m1 m2) rfl ?_
            unfold ReadR5
            rw [HR2.out]
            have hE := HE.out
            exact ⟨.slice none 0 0, rfl, World.ownsRow_nil _ _ _ _, by (repeat' (first | (with_reducible exact Below.refl _ _) | (with_reducible assumption) | (with_reducible refine Below.alloc ?_ ?_ _) | (with_reducible refine Below.drew ?_) | (with_reducible refine Below.setCell ?_ ?_ _) | (refine Go.Tum.Ext.trans ?_ (by with_reducible assumption)) | go_size))⟩
        · go_wp2_with fail
          refine (rget_any _ (body.drop at_) _ ((HDR.out (ao.map fun x => x.add at_) (by rw [if_neg hca]) (body.length - at_) (cap - at_) rfl rfl).ext HE.out)).mono ?_
          rintro e w1 ⟨rfl, rfl⟩
          rw [HV.out]
          by_cases he : e = 0
          · subst he
            have hok := vget_ok HV.out
            have hus := vget_used HV.out
            have hn := hok.1
            have hul : at_ + u ≤ body.length := by have := hus.2; rw [List.length_drop] at this; omega
            have hstep := HG.out.step hlt (by rw [HV.out])
            rw [HV.out] at hstep
            simp only [List.drop_drop] at hstep
            have HS := hid hstep
            clear hok hus hstep
            have hE1 := Ext.alloc wr (.cells #[.int .u64 (n : Int)] 31)
            have hS1 : wr.heap.size + 1 = (wr.alloc (.cells #[.int .u64 (n : Int)] 31)).heap.size := by simp
            have hV1 := Vec.one (f := uv) wr 31 (.int .u64 (n : Int)) (UInt64.ofNat n) (by simp [uv]; omega)
            have HO1 := hid (HO.out.ext hE1)
            have HE1 := hid (HE.out.trans hE1)
            have HB3 := hid (hE1.obj HB0.out)
            have HB4 := hid (hE1.obj HB1.out)
            have HB5 := hid (hE1.obj HB2.out)
            have HV1 := hid hV1
            clear hE1 hV1 i0 i1 i2 i3 i4 i5
            go_wp2_with (at_builtin; refine wpList_append_vec uv_one rfl (.tmp 41) (.tmp 43) 75 rfl (c + 1) 31 Tryz.underlying75 info64 rfl rfl HO1.out rfl HV1.out (k + 1) (by rw [HA.out]; rfl) (by omega) (by omega) (by omega) ?_; intro ao2 cap2 w2 hown2 hg2 hb2; obtain ⟨p0, p1, p2, p3, p4, p5⟩ := blk3f (below_obj hb2 (by omega) HB5.out); obtain ⟨HOW, HBE⟩ := And.intro (hid hown2) (hid hb2); clear hown2 hg2 hb2)
            go_roundw
            case rel =>
              have hb0 := below_obj HBE.out (by omega) HB3.out
              have hb1 := below_obj HBE.out (by omega) HB4.out
              have hb2 := Go.Joins.block_setCell (i := 1) (below_obj HBE.out (by omega) HB5.out) (.slice ao2 (k + 1) cap2)
              have hE := Below.trans HE1.out (HBE.out.mono (by omega))
              have hsz2 := HBE.out.size
              refine ⟨k + 1, at_ + u, acc ++ [UInt64.ofNat n], ao2, cap2, by omega, by go_num, by go_num, by omega, hid (by simp [HA.out]), HS, owv_setLow HOW.out _ _ (by dsimp only; omega), hid ?_, hid ?_, hid hb2, Below.setCell hE (by dsimp only; omega) _, hid (by simp; omega)⟩
              · rw [heap_setCell_other _ _ _ _ (by dsimp only; omega)]; exact hb0
              · rw [heap_setCell_other _ _ _ _ (by dsimp only; omega)]; exact hb1
            case measure => simp [intOf]; omega
          · have hne : ((e : Int) != 0) = true := by rw [bne_iff_ne]; omega
            have hg := HG.out.err hlt (by rw [HV.out]; exact he)
            rw [HV.out, ← HMM.out] at hg
            have hR := HR.out
            rw [hg, if_pos he] at hR
            have HR2 := hid hR
            clear hg hR
            have hB1' := Go.Joins.block_setCell (i := 2) (Go.Joins.block_setCell (i := 1) (Go.Joins.block_setCell (i := 0) HB1.out (.int .i64 0)) (.slice none 0 0)) (.string ⟨#[]⟩)
            go_wp2
            obtain ⟨m0, m1, m2, -⟩ := blk3f hB1'
            refine bodyPost_ret (rread5_results _ _ _ _ _ _ rfl m0 m1 m2) rfl ?_
            unfold ReadR5
            rw [HR2.out]
            have hE := HE.out
            exact ⟨.slice none 0 0, rfl, World.ownsRow_nil _ _ _ _, by (repeat' (first | (with_reducible exact Below.refl _ _) | (with_reducible assumption) | (with_reducible refine Below.alloc ?_ ?_ _) | (with_reducible refine Below.drew ?_) | (with_reducible refine Below.setCell ?_ ?_ _) | (refine Go.Tum.Ext.trans ?_ (by with_reducible assumption)) | go_size))⟩
      · obtain rfl : k = m := by omega
        have hg := HG.out.fin
        rw [HMM.out] at HR
        have hR := HR.out
        rw [hg] at hR
        have hll : (body.drop at_).length = body.length - at_ := List.length_drop
        obtain ⟨TB, hTB⟩ : ∃ TB, textB (kind.toNat : Int) (body.length - at_) = TB := ⟨_, rfl⟩
        simp only [hll, hTB, ne_eq, not_true_eq_false, if_false] at hR
        have HTB := hid hTB
        have HR2 := hid hR
        have hsub : (body.length : Int) - (at_ : Int) = ((body.length - at_ : Nat) : Int) := by omega
        have HSUB := hid hsub
        clear hg hR hTB hll hsub
        go_wp2_with fail
        rw [HSUB.out]
        refine (rtexts_any (kind.toNat : Int) (body.length - at_) _).mono ?_
        rintro e w1 ⟨rfl, rfl⟩
        rw [HTB.out]
        cases TB with
        | false =>
          have hB1' := Go.Joins.block_setCell (i := 2) (Go.Joins.block_setCell (i := 1) (Go.Joins.block_setCell (i := 0) HB1.out (.int .i64 0)) (.slice none 0 0)) (.string ⟨#[]⟩)
          go_wp2
          obtain ⟨m0, m1, m2, -⟩ := blk3f hB1'
          refine bodyPost_ret (rread5_results _ _ _ _ _ _ rfl m0 m1 m2) rfl ?_
          unfold ReadR5
          rw [HR2.out]
          have hE := HE.out
          exact ⟨.slice none 0 0, rfl, World.ownsRow_nil _ _ _ _, by (repeat' (first | (with_reducible exact Below.refl _ _) | (with_reducible assumption) | (with_reducible refine Below.alloc ?_ ?_ _) | (with_reducible refine Below.drew ?_) | (with_reducible refine Below.setCell ?_ ?_ _) | (refine Go.Tum.Ext.trans ?_ (by with_reducible assumption)) | go_size))⟩
        | true =>
          by_cases hca : cap = at_
          · subst hca
            have e1 := run_string_byt (P := Tryz.prog) ((HDR.out ao (by simp) 0 0 (by omega) (by omega)).ext HE.out) 37 9 5 Tryz.underlying37 Tryz.underlying5 Tryz.underlying9
            go_wp2
            have hb1 : (wr.setCell ⟨c, 2, none⟩ (.string (str (body.drop cap)))).heap[w.heap.size + 1]? = some (.cells #[.int .i64 0, .slice none 0 0, .string ⟨#[]⟩] 82 (0, 0)) := by
              rw [heap_setCell_other _ _ _ _ (by dsimp only; omega)]; exact HB1.out
            have hB1' := Go.Joins.block_setCell (i := 2) (Go.Joins.block_setCell (i := 1) (Go.Joins.block_setCell (i := 0) hb1 (.int .i64 (kind.toNat : Int))) (.slice bo k bc)) (.string (str (body.drop cap)))
            obtain ⟨m0, m1, m2, -⟩ := blk3f hB1'
            refine bodyPost_ret (rread5_results _ _ _ _ _ _ rfl m0 m1 m2) rfl ?_
            unfold ReadR5
            rw [HR2.out]
            have hE := HE.out
            refine ⟨.slice bo k bc, rfl, ?_, by (repeat' (first | (with_reducible exact Below.refl _ _) | (with_reducible assumption) | (with_reducible refine Below.alloc ?_ ?_ _) | (with_reducible refine Below.drew ?_) | (with_reducible refine Below.setCell ?_ ?_ _) | (refine Go.Tum.Ext.trans ?_ (by with_reducible assumption)) | go_size))⟩
            exact OwV.mono (owv_setLow (owv_setLow (owv_setLow (owv_setLow HO.out _ _ (by dsimp only; omega)) _ _ (by dsimp only; omega)) _ _ (by dsimp only; omega)) _ _ (by dsimp only; omega)) (by omega)
          · have e1 := run_string_byt (P := Tryz.prog) ((HDR.out (ao.map fun x => x.add at_) (by rw [if_neg hca]) (body.length - at_) (cap - at_) rfl rfl).ext HE.out) 37 9 5 Tryz.underlying37 Tryz.underlying5 Tryz.underlying9
            go_wp2
            have hb1 : (wr.setCell ⟨c, 2, none⟩ (.string (str (body.drop at_)))).heap[w.heap.size + 1]? = some (.cells #[.int .i64 0, .slice none 0 0, .string ⟨#[]⟩] 82 (0, 0)) := by
              rw [heap_setCell_other _ _ _ _ (by dsimp only; omega)]; exact HB1.out
            have hB1' := Go.Joins.block_setCell (i := 2) (Go.Joins.block_setCell (i := 1) (Go.Joins.block_setCell (i := 0) hb1 (.int .i64 (kind.toNat : Int))) (.slice bo k bc)) (.string (str (body.drop at_)))
            obtain ⟨m0, m1, m2, -⟩ := blk3f hB1'
            refine bodyPost_ret (rread5_results _ _ _ _ _ _ rfl m0 m1 m2) rfl ?_
            unfold ReadR5
            rw [HR2.out]
            have hE := HE.out
            refine ⟨.slice bo k bc, rfl, ?_, by (repeat' (first | (with_reducible exact Below.refl _ _) | (with_reducible assumption) | (with_reducible refine Below.alloc ?_ ?_ _) | (with_reducible refine Below.drew ?_) | (with_reducible refine Below.setCell ?_ ?_ _) | (refine Go.Tum.Ext.trans ?_ (by with_reducible assumption)) | go_size))⟩
            exact OwV.mono (owv_setLow (owv_setLow (owv_setLow (owv_setLow HO.out _ _ (by dsimp only; omega)) _ _ (by dsimp only; omega)) _ _ (by dsimp only; omega)) _ _ (by dsimp only; omega)) (by omega)
end Go.Proofs.YtijpokajhjhllaaGreatDoor

namespace Go.Proofs.YtijpokajhjhllaaGreatDoor
open Go.RowKit Go.Tum Go.Tum.Crc Go.Tum.Vint

def recsSame (l m : List Rc) : Bool := decide (l = m)
theorem recsame_ne {l m : List Rc} (h : l ≠ m) : recsSame l m = false := by simp [recsSame, h]
theorem recsame_eq {l m : List Rc} (h : l = m) : recsSame l m = true := by simp [recsSame, h]
section
variable {P : Program}
theorem wpList_append_row3 {ops : Array Oper} {rest : List Oper} {o : Oper} {a : Act} {w : World} {Q : Exit → Act → World → Prop} (hgd : o.guard = none) (s x : Operand) (t : Nat)
    (ho : o.op = .call { callee := .builtin .append, args := #[s, x], argTypes := #[t, t] }) (base T : Nat) (ht : P.underlying t = some (.slice T))
    (hi : (P.info? T).map (fun i => (i.zero, i.size, i.bytes)) = some (some (.agg #[.int .i64 0, .slice none 0 0, .string ⟨#[]⟩]), 3, 48))
    {v : Value} {n : Nat} {xs : List Value} (hs : a.eval s = v) (hown : w.ownsRow base T 3 v n xs) {g : Nat} {p q r : Value} (hx : a.eval x = .slice (some ⟨g, 0, none⟩) 1 1)
    {ty : TypeId} {fr : Nat × Nat} (hblk : w.heap[g]? = some (.cells #[p, q, r] ty fr)) (hp : p.oneCell' = true) (hq : q.oneCell' = true) (hr : r.oneCell' = true)
    (hb : (n + 1) * 48 ≤ 140737488355328) (hbase : base ≤ w.heap.size)
    (h : ∀ ao cap w', w'.ownsRow base T 3 (.slice ao (n + 1) cap) (n + 1) (xs ++ [p, q, r]) → w.grownBy w' v.ownBlock → Below base w w' → wpList P ops Q rest (a.put o.dst (.slice ao (n + 1) cap)) w') :
    wpList P ops Q (o :: rest) a w := by
  have hsl : Sl w 3 (.slice (some ⟨g, 0, none⟩) 1 1) 1 [p, q, r] := by
    refine ⟨rfl, some ⟨g, 0, none⟩, 1, rfl, Nat.le_refl _, by simp [maxLen], (fun h => by cases h), fun a ha j u hu => ?_⟩
    cases ha
    have e1 : (⟨g, 0, none⟩ : Addr).add j = ⟨g, j, none⟩ := by unfold Addr.add; split <;> simp_all
    rw [e1, cell_of_row _ _ _ _ _ _ hblk]
    simpa using hu
  refine wpList_append_sl hgd s x t ho base T ht hi rfl (by decide) hs hown hx hsl (by
      intro y' hy'
      simp at hy'
      rcases hy' with rfl | rfl | rfl
      · exact hp
      · exact hq
      · exact hr) (by simp [maxLen]; omega) (by omega) hbase fun ao cap w' k1 k2 k3 => h ao cap w' k1 k2 k3
end

end Go.Proofs.YtijpokajhjhllaaGreatDoor

set_option maxRecDepth 100000
namespace Go.Tum.Crc
open Go.Tum Go.Tum.Vint
theorem recs_ok {k : Nat} {x : Fr} {r : List Fr} {e : Int} (h : (recRead x).2 = 0) :
    recs k (x :: r) e = ((recRead x).1 :: (recs (k + (x.body.length + 11)) r e).1, (k + (x.body.length + 11)) :: (recs (k + (x.body.length + 11)) r e).2.1, (recs (k + (x.body.length + 11)) r e).2.2) := by
  simp only [recs]; rw [if_neg (by simp [h])]
theorem recs_bad {k : Nat} {x : Fr} {r : List Fr} {e : Int} (h : (recRead x).2 ≠ 0) : recs k (x :: r) e = ([], [], (recRead x).2) := by
  simp only [recs]; rw [if_pos h]
theorem fcat_take_le : ∀ (l : List Fr) (k : Nat), (fcat (l.take k)).length ≤ (fcat l).length
  | [], k => by simp
  | x :: r, 0 => by simp [fcat]
  | x :: r, k + 1 => by
    have := fcat_take_le r k
    simp only [List.take_succ_cons, fcat, List.length_append]; omega
end Go.Tum.Crc
namespace Go.Proofs.YtijpokajhjhllaaGreatDoor
open Go.RowKit Go.Tum Go.Tum.Crc Go.Tum.Vint

theorem FrsO.farRow {w w' : World} {b b' T f size n : Nat} {u v : Value} {xs : List Value} {l : List Fr} (h : FrsO w b T v l) (hu : w.ownsRow b' f size u n xs) (h1 : T ≠ f) (h2 : 5 ≠ f) (hg : w.grownBy w' u.ownBlock) : FrsO w' b T v l := by
  obtain ⟨m, hm, k2, k3⟩ := h
  exact ⟨m, hm, rows_far k2 hu h1 hg, fun p hp => own_far (k3 p hp) hu h2 hg⟩
theorem FrsO.farRcs {w w' : World} {b b' T f : Nat} {u v : Value} {l : List Fr} {m : List Rc} (h : FrsO w b T v l) (hu : RcsO w b' f u m) (h1 : T ≠ f) (h2 : 5 ≠ f) (hg : w.grownBy w' u.ownBlock) : FrsO w' b T v l := by
  obtain ⟨q, _, k2, _⟩ := hu
  exact h.farRow k2 h1 h2 hg

set_option maxRecDepth 100000 in
set_option maxHeartbeats 1000000 in
theorem rall5_any (v : Value) (b : List UInt8) (w : World) (hb : Byt w v b) (hl : b.length ≤ 1048576) :
    Calls Tryz.prog 49 #[v] w (AllR5 82 w b) := by
  obtain ⟨vo, vc, rfl, -⟩ := hb.open
  have HB := hid hb
  clear hb
  have HO0 := hid (RcsO.lit0 w w.heap.size 82 (Nat.le_refl _))
  have hE1 := Ext.alloc w (.cells #[] 82)
  have hS1 : (w.alloc (.cells #[] 82)).heap.size = w.heap.size + 1 := by simp
  go_enter Tryz.func49, Tryz.ntmps49
  go_wp2_with fail
  generalize w.alloc (.cells #[] 82) = W1 at *
  have hI0 := owv_lit (f := iv) W1 w.heap.size 3 ([] : List Nat) #[] rfl 0 rfl (by omega) (by simp [maxLen])
  have hE2 := Ext.alloc W1 (.cells #[] 3)
  rw [hS1] at hI0
  generalize W1.alloc (.cells #[] 3) = W2 at *
  have HO2 := hid (HO0.out.ext hE2)
  have HI2 := hid hI0
  have HE2 := hid (hE1.trans hE2)
  clear hE1 hE2 hS1 hI0 HO0
  refine (rfall_any _ b _ (HB.out.ext HE2.out) hl).mono ?_
  rintro e W3 ⟨r, rfl, hr, hw⟩
  obtain ⟨F, fn, er, hF⟩ : ∃ F fn er, fall b = (F, fn, er) := ⟨_, _, _, rfl⟩
  have hra := recs_fall b 0
  have hfe := fall_end b
  have hfl := fall_le b
  rw [hF] at hr hra hfe hfl ⊢
  simp only [] at hr hra hfe hfl
  have HBD := hid (show ∀ k, (fcat (F.take k)).length ≤ b.length from fun k => by have := fcat_take_le F k; omega)
  have hFl : F.length ≤ 1048576 := by omega
  obtain ⟨lo, lc, rfl⟩ := hr.open
  have HRA := hid hra
  have HF3 := hid (hr.mono HE2.out.size)
  have HO3 := hid (HO2.out.ext hw)
  have HI3 := hid (HI2.out.ext hw)
  have HE3 := hid (HE2.out.trans hw)
  clear hF hra hfe hfl hr hw HO2 HI2
  go_wp2
  go_loopw [5, 6, 10, 11] (fun o q ai i wr => ∃ (k A : Nat) (m : List Rc) (es : List Nat) (bo : Option Addr) (bc : Nat) (co : Option Addr) (cc : Nat), k ≤ F.length ∧ i = .int .i64 k ∧ ai = .int .i64 A ∧ o = .slice bo k bc ∧ q = .slice co k cc ∧ A ≤ b.length ∧
      Hid (A = (fcat (F.take k)).length) ∧ Hid (m.length = k) ∧ Hid (es.length = k) ∧ Hid (RcsO wr w.heap.size 82 (.slice bo k bc) m) ∧ Hid (OwV iv wr w.heap.size 3 (.slice co k cc) es) ∧
      Hid (FrsO wr w.heap.size 119 (.slice lo F.length lc) F) ∧
      Hid (rall 0 b = (m ++ (recs A (F.drop k) er).1, es ++ (recs A (F.drop k) er).2.1, (recs A (F.drop k) er).2.2)) ∧ Hid (Ext w wr)) (fun _ _ _ i _ => F.length - (intOf i).toNat)
  case atStart => exact ⟨0, 0, [], [], _, 0, _, 0, by omega, rfl, rfl, rfl, rfl, by omega, hid (by simp [fcat]), rfl, rfl, HO3, HI3, HF3, hid (by simpa using HRA.out.symm), HE3⟩
  case round =>
    obtain ⟨k, A, m, es, bo, bc, co, cc, hk, rfl, rfl, rfl, rfl, hA, HA, HM, HES, HO, HI, HF, HV, HE⟩ := hrel
    by_cases hlt : k < F.length
    · obtain ⟨q, hq, hrow, hBq⟩ := HF.out.frs
      obtain ⟨hql, hc1, hc2, hc3, hcell⟩ := hrow.opens
      obtain ⟨a, rfl⟩ := hc3 (by omega)
      have hkq : k < q.length := by omega
      have hx : q[k].1 = F[k] := by
        have h1 : (q.map (·.1))[k]? = F[k]? := by rw [hq]
        rw [List.getElem?_map, List.getElem?_eq_getElem hkq, List.getElem?_eq_getElem hlt] at h1
        simpa using h1
      have c0 := cell_first (hcell a rfl k hkq 0 _ rfl)
      have c1 := cell_next (hcell a rfl k hkq 1 _ rfl) (by decide)
      have hbody := hBq _ (List.getElem_mem hkq)
      rw [hx] at c0 hbody
      have htk : F.take (k + 1) = F.take k ++ [F[k]] := List.take_succ_eq_append_getElem hlt
      have hdk : F.drop k = F[k] :: F.drop (k + 1) := List.drop_eq_getElem_cons hlt
      obtain ⟨X, hX0⟩ : ∃ X, F[k] = X := ⟨_, rfl⟩
      obtain ⟨U, hU0⟩ : ∃ U, q[k].2 = U := ⟨_, rfl⟩
      rw [hX0] at c0 hbody htk hdk
      rw [hU0] at c1 hbody
      obtain ⟨U1, U3, rfl, -⟩ := hbody.open
      have hcat : (fcat (F.take (k + 1))).length = (fcat (F.take k)).length + (X.body.length + 11) := by rw [htk, fcat_snoc, List.length_append, fbytes_length]
      have hA2 : A + (X.body.length + 11) ≤ b.length := by have := HBD.out (k + 1); rw [hcat, ← HA.out] at this; exact this
      have hA3 : A + X.body.length + 11 ≤ 1048576 := by omega
      have HCAT := hid (show A + (X.body.length + 11) = (fcat (F.take (k + 1))).length by rw [hcat, ← HA.out])
      have HDK := hid hdk
      have HBD2 := hid hbody
      obtain ⟨z, er2, hz⟩ : ∃ z er2, recRead X = (z, er2) := ⟨_, _, rfl⟩
      have HZ := hid hz
      clear hcat htk hdk hbody hX0 hU0 hx hq hrow hBq hql hc1 hc2 hc3 hcell hkq hz
      go_wp2_with fail
      have C0 := hid c0
      have C1 := hid c1
      clear c0 c1
      refine (rread5_any X _ _ HBD2.out).mono ?_
      rintro e w2 ⟨r2, rfl, hr2, hw2⟩
      rw [HZ.out] at hr2 ⊢
      simp only [] at hr2
      obtain ⟨to, tc, rfl, -⟩ := hr2.vec.open
      have HX3 := hid (HE.out.trans hw2)
      have HO3 := hid (HO.out.ext hw2)
      have HI3 := hid (HI.out.ext hw2)
      have HF3 := hid (HF.out.ext hw2)
      have HR3 := hid (hr2.mono HE.out.size)
      by_cases her2 : er2 = 0
      · subst her2
        have hok := recs_ok (k := A) (x := X) (r := F.drop (k + 1)) (e := er) (by rw [HZ.out])
        rw [HZ.out] at hok
        simp only [] at hok
        have HOK := hid hok
        clear hok hr2
        have hx4 := Ext.alloc w2 (.cells #[.int .i64 z.kind, .slice to z.n.length tc, .string (str z.text)] 82)
        have c0 := hx4.cell (hw2.cell C0.out)
        have c1 := hx4.cell (hw2.cell C1.out)
        obtain ⟨d0, d1, d2⟩ := blk3 (heap_alloc_new w2 (.cells #[.int .i64 z.kind, .slice to z.n.length tc, .string (str z.text)] 82))
        have hblk : ((w2.alloc (.cells #[.int .i64 z.kind, .slice to z.n.length tc, .string (str z.text)] 82)).alloc (.cells #[.int .i64 z.kind, .slice to z.n.length tc, .string (str z.text)] 82)).heap[w2.heap.size + 1]? = some (.cells #[.int .i64 z.kind, .slice to z.n.length tc, .string (str z.text)] 82) := by
          have := heap_alloc_new (w2.alloc (.cells #[.int .i64 z.kind, .slice to z.n.length tc, .string (str z.text)] 82)) (.cells #[.int .i64 z.kind, .slice to z.n.length tc, .string (str z.text)] 82)
          rwa [World.size_alloc] at this
        have HBLK := hid hblk
        have hsz2 := HX3.out.size
        have hx5 := hx4.trans (Ext.alloc _ (.cells #[.int .i64 z.kind, .slice to z.n.length tc, .string (str z.text)] 82))
        have hN48 : (k + 1) * 48 ≤ 140737488355328 := by omega
        have hes : (k + 1) * 8 ≤ 140737488355328 := by omega
        have HO4 := hid (HO3.out.ext hx5)
        have HI4 := hid (HI3.out.ext hx5)
        have HF4 := hid (HF3.out.ext hx5)
        have HR4 := hid (HR3.out.ext hx5)
        have HX4 := hid (HX3.out.trans hx5)
        clear hblk hx4 hx5 hw2
        go_wp2_with (first
          | (at_builtin; refine wpList_append_rc rfl (.tmp 50) (.tmp 52) 88 rfl w.heap.size 82 Tryz.underlying88 infoRRc (by decide) rfl HO4.out rfl HBLK.out HR4.out (k + 1) (by rw [HM.out]) hN48 (by simp; omega) ?_; intro ao2 cap2 w3 hown2 hg2 hb2; obtain ⟨HO5, HI5, HF5, HX5⟩ := And.intro (hid hown2) (And.intro (hid (far_rcs HI4.out HO4.out (by decide) hg2)) (And.intro (hid (HF4.out.farRcs HO4.out (by decide) (by decide) hg2)) (hid (HX4.out.below hb2)))); have hsz3 := HX5.out.size; clear hown2 hg2 hb2)
          | (at_builtin; refine wpList_append_vec iv_one rfl (.tmp 54) (.tmp 56) 36 rfl w.heap.size 3 Tryz.underlying36 infoInt rfl rfl (HI5.out.ext (Ext.alloc _ _)) rfl (Vec.one _ _ _ (A + X.body.length + 11) (by simp)) (k + 1) (by rw [HES.out]; rfl) hes (by omega) (by simp; omega) ?_; intro ao3 cap3 w4 hown3 hg3 hb3))
        go_roundw
        case rel =>
          have hx6 := Ext.alloc w3 (.cells #[.int .i64 ((A : Int) + (X.body.length : Int) + 11)] 3)
          refine ⟨k + 1, A + (X.body.length + 11), m ++ [z], es ++ [A + (X.body.length + 11)], ao2, cap2, ao3, cap3, by omega, by go_num, by go_num, rfl, rfl, by omega, HCAT, hid (by simp [HM.out]), hid (by simp [HES.out]), hid ?_, hid ?_, hid ?_, hid ?_, (HX5.out.trans (Ext.alloc _ _)).below hb3⟩
          · exact RcsO.far (HO5.out.ext hx6) (HI5.out.ext hx6) (by decide) (by decide) hg3
          · exact hown3
          · exact (HF5.out.ext hx6).farRow (HI5.out.ext hx6) (by decide) (by decide) hg3
          · rw [HV.out, HDK.out, HOK.out]; simp
        case measure => simp [intOf]; omega
      · have he2 : (er2 != 0) = true := by simp [her2]
        have herr := recs_bad (k := A) (x := X) (r := F.drop (k + 1)) (e := er) (by rw [HZ.out]; exact her2)
        rw [HZ.out] at herr
        simp only [] at herr
        have HERR := hid herr
        clear herr her2 hr2 hw2
        go_wp2
        go_ret3
        unfold AllR5
        rw [HV.out, HDK.out, HERR.out]
        have hx := Ext.alloc w2 (.cells #[.int .i64 z.kind, .slice to z.n.length tc, .string (str z.text)] 82)
        refine ⟨_, _, rfl, ?_, ?_, HX3.out.trans hx⟩
        · simpa using HO3.out.ext hx
        · simpa using HI3.out.ext hx
    · obtain rfl : k = F.length := by omega
      have HV' : rall 0 b = (m, es, er) := by rw [HV.out, List.drop_of_length_le (Nat.le_refl _)]; simp [recs]
      have HV2 := hid HV'
      clear HV'
      go_wp2
      go_ret3
      unfold AllR5
      rw [HV2.out]
      exact ⟨_, _, rfl, HO.out, HI.out, HE.out⟩
end Go.Proofs.YtijpokajhjhllaaGreatDoor

set_option maxRecDepth 100000
namespace Go.Proofs.YtijpokajhjhllaaGreatDoor
open Go.RowKit Go.Tum Go.Tum.Crc Go.Tum.Vint

/-- '[]byte(s)'. -/
theorem run_convert_str {P : Program} (w : World) (src dst e : TypeId) (l : List UInt8) {u : TypeDesc} (hl : l.length ≤ 140737488355328)
    (hs : P.underlying src = some u) (hd : P.underlying dst = some (.slice e)) (he : P.underlying e = some (.int .u8)) :
    ∃ ao cap w', (convert src dst (.string (str l))).run P w = .ok (.slice ao l.length cap) w' ∧ Byt w' (.slice ao l.length cap) l ∧ Ext w w' := by
  have hsz := str_size l
  refine ⟨some ⟨w.heap.size, 0, none⟩, grownCap w l.length 0 e, Lib.bytesWorld w e (str l), ?_, ?_, ?_⟩
  · have := Lib.run_convert_string_bytes (P := P) w src dst e (str l) hs hd he
    rwa [hsz] at this
  · refine ⟨by simp, some ⟨w.heap.size, 0, none⟩, grownCap w l.length 0 e, rfl, grownCap_ge w l.length 0 e, grownCap_le_maxLen w l.length 0 e (by simp [maxLen]; omega), (fun h => by cases h), fun a ha j u hu => ?_⟩
    cases ha
    have e1 : (⟨w.heap.size, 0, none⟩ : Addr).add j = ⟨w.heap.size, j, none⟩ := by unfold Addr.add; split <;> simp_all
    have hj : j < l.length := by
      have := (List.getElem?_eq_some_iff.1 hu).1
      simpa using this
    rw [e1, Lib.bytesWorld_cell w e (str l) j (by rw [hsz]; exact hj)]
    rw [str_data]
    simp only [List.getElem?_map, List.getElem?_eq_getElem hj, Option.map_some, Option.some.injEq] at hu
    subst hu
    simp [bv, hj]
  · exact ⟨rfl, rfl, rfl, by rw [Lib.bytesWorld_size]; omega, fun k hk => Lib.bytesWorld_at_old w e (str l) k hk⟩
theorem val_convert {P : Program} {ρ : Operand → Value} {w w' : World} {K : Value → World → Prop} {v : Value} {src dst : TypeId} {x : Operand}
    {ds : Option Tmp} {ty : TypeId} {pos : String} {after : Array Edge} {guard : Option (Nat × Bool)}
    (h : (convert src dst (ρ x)).run P w = .ok v w') (hk : K v w') :
    Par.vUpon P K ((execOp ρ { dst := ds, op := .convert src dst x, type := ty, pos, after, guard }).run P w) := by
  unfold execOp
  simp only [Sem.run_bind, Sem.run_pure, h, Result.andThen_ok]
  exact hk

theorem rright5_any (r : Rc) (v : Value) (w : World) (hv : Vec uv w v r.n) :
    Calls Tryz.prog 80 #[rv r v] w fun e w' => e = .returned (.bool (rightB r)) ∧ Ext w w' := by
  obtain ⟨ao, cap, rfl, -⟩ := hv.open
  obtain ⟨kind, n, text⟩ := r
  clear hv
  have hE1 := Ext.alloc w (.cells #[.int .i64 kind, .slice ao n.length cap, .string (str text)] 82)
  obtain ⟨c0, c1, c2⟩ := blk3 (heap_alloc_new w (.cells #[.int .i64 kind, .slice ao n.length cap, .string (str text)] 82))
  have hsz := str_size text
  by_cases h1 : knownB kind = true
  · obtain ⟨m, hm⟩ : ∃ m, many kind = m := ⟨_, rfl⟩
    have HRM := hid (rmany_yes h1 hm)
    have hm0 : decide ((0 : Int) ≤ (m : Int)) = true := by simp
    by_cases h2 : n.length = m
    · have HR := hid (show rightB ⟨kind, n, text⟩ = textB kind text.length by simp [rightB, h1, hm, h2])
      have e2 : ((n.length : Int) == (m : Int)) = true := by rw [h2]; simp
      clear h1 h2 hm
      go_enter Tryz.func80, Tryz.ntmps80
      go_wp2_with fail
      generalize w.alloc (.cells #[.int .i64 kind, .slice ao n.length cap, .string (str text)] 82) = W at *
      have HE := hid hE1
      have C0 := hid c0
      have C1 := hid c1
      have C2 := hid c2
      clear hE1 c0 c1 c2
      refine Par.wp_region_par (l := [_, _, _, _, _, _, _, _, _, _, _, _, _, _, _, _, _, _, _, _, _, _]) rfl Ext (Par.VL [Par.EQ (Value.pointer (some ⟨w.heap.size, 0, none⟩)), Par.EQ (Value.int IntKind.i64 kind), Par.EQ (Value.int IntKind.i64 (m : Int)), Par.EQ (Value.bool true), Par.EQ (Value.bool true), Par.EQ (Value.pointer (some ⟨w.heap.size, 1, none⟩)), Par.EQ (Value.slice ao n.length cap), Par.EQ (Value.int IntKind.i64 (n.length : Int)), Par.EQ (Value.pointer (some ⟨w.heap.size, 0, none⟩)), Par.EQ (Value.int IntKind.i64 kind), Par.EQ (Value.int IntKind.i64 (m : Int)), Par.EQ (Value.bool true), Par.EQ (Value.bool true), Par.EQ (Value.bool true), Par.EQ (Value.pointer (some ⟨w.heap.size, 0, none⟩)), Par.EQ (Value.int IntKind.i64 kind), Par.EQ (Value.pointer (some ⟨w.heap.size, 2, none⟩)), Par.EQ (Value.string (str text)), Par.EQ (Value.int IntKind.i64 (text.length : Int)), Par.EQ (Value.bool (textB kind text.length)), Par.EQ (Value.bool (textB kind text.length)), Par.EQ (Value.bool (textB kind text.length))]) (by kernel_rfl) Ext.refl (fun _ _ _ h1 h2 => Ext.trans h1 h2) (Ext.draw _) (Par.VL_stab ?_) ?_ ?_
      · simp only [List.forall_mem_cons, List.not_mem_nil, false_implies, implies_true, and_true]
        refine ⟨fun _ _ _ _ h => h, fun _ _ _ _ h => h, fun _ _ _ _ h => h, fun _ _ _ _ h => h, fun _ _ _ _ h => h, fun _ _ _ _ h => h, fun _ _ _ _ h => h, fun _ _ _ _ h => h, fun _ _ _ _ h => h, fun _ _ _ _ h => h, fun _ _ _ _ h => h, fun _ _ _ _ h => h, fun _ _ _ _ h => h, fun _ _ _ _ h => h, fun _ _ _ _ h => h, fun _ _ _ _ h => h, fun _ _ _ _ h => h, fun _ _ _ _ h => h, fun _ _ _ _ h => h, fun _ _ _ _ h => h, fun _ _ _ _ h => h, fun _ _ _ _ h => h⟩
      · refine ⟨⟨fun _ _ => trivial, fun ρ w' hX hG hk => ?_⟩, ?_⟩
        · obtain ⟨k0, -⟩ := hk
          have e0 : ρ (.tmp 1) = Value.pointer (some ⟨w.heap.size, 0, none⟩) := k0
          clear k0
          refine Par.val_k fun K hK => ?_
          unfold Par.val
          (go_simp; exact hK _ _ ⟨Ext.refl _, rfl⟩)
        refine ⟨⟨fun _ _ => trivial, fun ρ w' hX hG hk => ?_⟩, ?_⟩
        · obtain ⟨k0, -⟩ := hk
          have e0 : ρ (.tmp 3) = Value.pointer (some ⟨w.heap.size, 0, none⟩) := k0
          clear k0
          refine Par.val_k fun K hK => ?_
          unfold Par.val
          (have c := hX.cell C0.out; go_simp; exact hK _ _ ⟨Ext.refl _, rfl⟩)
        refine ⟨⟨fun _ _ => trivial, fun ρ w' hX hG hk => ?_⟩, ?_⟩
        · obtain ⟨k0, k1, -⟩ := hk
          have e0 := k0
          have e1 : ρ (.tmp 4) = Value.int IntKind.i64 kind := k1
          clear k0 k1
          refine Par.val_k fun K hK => ?_
          unfold Par.val
          refine Par.val_call Tryz.func98 (by kernel_rfl) rfl e0 ?_
          simp only [List.map_toArray, List.map_cons, List.map_nil, e1]
          refine (rmany_any kind _).mono ?_
          rintro e w2 ⟨rfl, h2⟩
          exact ⟨_, rfl, hK _ _ ⟨h2, (congrArg (Value.int IntKind.i64) HRM.out)⟩⟩
        refine ⟨⟨fun _ _ => trivial, fun ρ w' hX hG hk => ?_⟩, ?_⟩
        · obtain ⟨k0, k1, -⟩ := hk
          have e0 : ρ (.tmp 5) = Value.int IntKind.i64 (m : Int) := k0
          have e1 : ρ (Operand.const (Value.int IntKind.i64 0)) = (Value.int IntKind.i64 0) := k1
          clear k0 k1
          refine Par.val_k fun K hK => ?_
          unfold Par.val
          (go_simp; exact hK _ _ ⟨Ext.refl _, rfl⟩)
        refine ⟨⟨fun _ _ => trivial, fun ρ w' hX hG hk => ?_⟩, ?_⟩
        · exact Par.val_of_run rfl ⟨Ext.refl _, hk.1⟩
        refine ⟨⟨fun _ _ u hu => .inl hu, fun ρ w' hX hG hk => ?_⟩, ?_⟩
        · obtain ⟨k0, -⟩ := hk
          have e0 : ρ (.tmp 1) = Value.pointer (some ⟨w.heap.size, 0, none⟩) := k0
          clear k0
          refine Par.val_k fun K hK => ?_
          unfold Par.val
          (go_simp; exact hK _ _ ⟨Ext.refl _, rfl⟩)
        refine ⟨⟨fun _ _ u hu => .inl hu, fun ρ w' hX hG hk => ?_⟩, ?_⟩
        · obtain ⟨k0, -⟩ := hk
          have e0 : ρ (.tmp 8) = Value.pointer (some ⟨w.heap.size, 1, none⟩) := k0
          clear k0
          refine Par.val_k fun K hK => ?_
          unfold Par.val
          (have c := hX.cell C1.out; go_simp; exact hK _ _ ⟨Ext.refl _, rfl⟩)
        refine ⟨⟨fun _ _ u hu => .inl hu, fun ρ w' hX hG hk => ?_⟩, ?_⟩
        · obtain ⟨k0, -⟩ := hk
          have e0 : ρ (.tmp 9) = Value.slice ao n.length cap := k0
          clear k0
          refine Par.val_k fun K hK => ?_
          unfold Par.val
          (go_simp; exact hK _ _ ⟨Ext.refl _, rfl⟩)
        refine ⟨⟨fun _ _ u hu => .inl hu, fun ρ w' hX hG hk => ?_⟩, ?_⟩
        · obtain ⟨k0, -⟩ := hk
          have e0 : ρ (.tmp 1) = Value.pointer (some ⟨w.heap.size, 0, none⟩) := k0
          clear k0
          refine Par.val_k fun K hK => ?_
          unfold Par.val
          (go_simp; exact hK _ _ ⟨Ext.refl _, rfl⟩)
        refine ⟨⟨fun _ _ u hu => .inl hu, fun ρ w' hX hG hk => ?_⟩, ?_⟩
        · obtain ⟨k0, -⟩ := hk
          have e0 : ρ (.tmp 11) = Value.pointer (some ⟨w.heap.size, 0, none⟩) := k0
          clear k0
          refine Par.val_k fun K hK => ?_
          unfold Par.val
          (have c := hX.cell C0.out; go_simp; exact hK _ _ ⟨Ext.refl _, rfl⟩)
        refine ⟨⟨fun _ _ u hu => .inl hu, fun ρ w' hX hG hk => ?_⟩, ?_⟩
        · obtain ⟨k0, k1, -⟩ := hk
          have e0 := k0
          have e1 : ρ (.tmp 12) = Value.int IntKind.i64 kind := k1
          clear k0 k1
          refine Par.val_k fun K hK => ?_
          unfold Par.val
          refine Par.val_call Tryz.func98 (by kernel_rfl) rfl e0 ?_
          simp only [List.map_toArray, List.map_cons, List.map_nil, e1]
          refine (rmany_any kind _).mono ?_
          rintro e w2 ⟨rfl, h2⟩
          exact ⟨_, rfl, hK _ _ ⟨h2, (congrArg (Value.int IntKind.i64) HRM.out)⟩⟩
        refine ⟨⟨fun _ _ u hu => .inl hu, fun ρ w' hX hG hk => ?_⟩, ?_⟩
        · obtain ⟨k0, k1, -⟩ := hk
          have e0 : ρ (.tmp 10) = Value.int IntKind.i64 (n.length : Int) := k0
          have e1 : ρ (.tmp 13) = Value.int IntKind.i64 (m : Int) := k1
          clear k0 k1
          refine Par.val_k fun K hK => ?_
          unfold Par.val
          (go_simp; exact hK _ _ ⟨Ext.refl _, rfl⟩)
        refine ⟨⟨fun _ _ => trivial, fun ρ w' hX hG hk => ?_⟩, ?_⟩
        · obtain ⟨k0, k1, k2, -⟩ := hk
          have e0 : ρ (.tmp 7) = Value.bool true := k0
          have e1 : ρ (.tmp 14) = Value.bool true := k1
          have e2 : ρ (Operand.const (Value.bool false)) = (Value.bool false) := k2
          clear k0 k1 k2
          refine Par.val_k fun K hK => ?_
          unfold Par.val
          (go_simp; exact hK _ _ ⟨Ext.refl _, rfl⟩)
        refine ⟨⟨fun _ _ => trivial, fun ρ w' hX hG hk => ?_⟩, ?_⟩
        · exact Par.val_of_run rfl ⟨Ext.refl _, hk.1⟩
        refine ⟨⟨fun _ _ u hu => .inl hu, fun ρ w' hX hG hk => ?_⟩, ?_⟩
        · obtain ⟨k0, -⟩ := hk
          have e0 : ρ (.tmp 1) = Value.pointer (some ⟨w.heap.size, 0, none⟩) := k0
          clear k0
          refine Par.val_k fun K hK => ?_
          unfold Par.val
          (go_simp; exact hK _ _ ⟨Ext.refl _, rfl⟩)
        refine ⟨⟨fun _ _ u hu => .inl hu, fun ρ w' hX hG hk => ?_⟩, ?_⟩
        · obtain ⟨k0, -⟩ := hk
          have e0 : ρ (.tmp 17) = Value.pointer (some ⟨w.heap.size, 0, none⟩) := k0
          clear k0
          refine Par.val_k fun K hK => ?_
          unfold Par.val
          (have c := hX.cell C0.out; go_simp; exact hK _ _ ⟨Ext.refl _, rfl⟩)
        refine ⟨⟨fun _ _ u hu => .inl hu, fun ρ w' hX hG hk => ?_⟩, ?_⟩
        · obtain ⟨k0, -⟩ := hk
          have e0 : ρ (.tmp 1) = Value.pointer (some ⟨w.heap.size, 0, none⟩) := k0
          clear k0
          refine Par.val_k fun K hK => ?_
          unfold Par.val
          (go_simp; exact hK _ _ ⟨Ext.refl _, rfl⟩)
        refine ⟨⟨fun _ _ u hu => .inl hu, fun ρ w' hX hG hk => ?_⟩, ?_⟩
        · obtain ⟨k0, -⟩ := hk
          have e0 : ρ (.tmp 19) = Value.pointer (some ⟨w.heap.size, 2, none⟩) := k0
          clear k0
          refine Par.val_k fun K hK => ?_
          unfold Par.val
          (have c := hX.cell C2.out; go_simp; exact hK _ _ ⟨Ext.refl _, rfl⟩)
        refine ⟨⟨fun _ _ u hu => .inl hu, fun ρ w' hX hG hk => ?_⟩, ?_⟩
        · obtain ⟨k0, -⟩ := hk
          have e0 : ρ (.tmp 20) = Value.string (str text) := k0
          clear k0
          refine Par.val_k fun K hK => ?_
          unfold Par.val
          (go_simp; exact hK _ _ ⟨Ext.refl _, rfl⟩)
        refine ⟨⟨fun _ _ u hu => .inl hu, fun ρ w' hX hG hk => ?_⟩, ?_⟩
        · obtain ⟨k0, k1, k2, -⟩ := hk
          have e0 := k0
          have e1 : ρ (.tmp 18) = Value.int IntKind.i64 kind := k1
          have e2 : ρ (.tmp 21) = Value.int IntKind.i64 (text.length : Int) := k2
          clear k0 k1 k2
          refine Par.val_k fun K hK => ?_
          unfold Par.val
          refine Par.val_call Tryz.func99 (by kernel_rfl) rfl e0 ?_
          simp only [List.map_toArray, List.map_cons, List.map_nil, e1, e2]
          refine (rtexts_any kind text.length _).mono ?_
          rintro e w2 ⟨rfl, rfl⟩
          exact ⟨_, rfl, hK _ _ ⟨Ext.refl _, (rfl)⟩⟩
        refine ⟨⟨fun _ _ => trivial, fun ρ w' hX hG hk => ?_⟩, ?_⟩
        · obtain ⟨k0, k1, k2, -⟩ := hk
          have e0 : ρ (.tmp 16) = Value.bool true := k0
          have e1 : ρ (.tmp 22) = Value.bool (textB kind text.length) := k1
          have e2 : ρ (Operand.const (Value.bool false)) = (Value.bool false) := k2
          clear k0 k1 k2
          refine Par.val_k fun K hK => ?_
          unfold Par.val
          (go_simp; exact hK _ _ ⟨Ext.refl _, rfl⟩)
        refine ⟨⟨fun _ _ => trivial, fun ρ w' hX hG hk => ?_⟩, ?_⟩
        · obtain ⟨k0, -⟩ := hk
          have e0 : ρ (.tmp 23) = Value.bool (textB kind text.length) := k0
          clear k0
          refine Par.val_k fun K hK => ?_
          unfold Par.val
          (go_simp; exact hK _ _ ⟨Ext.refl _, rfl⟩)
        trivial
      intro a' w' inv
      have hX := inv.ext
      have q3 : a'.tmps.getD 3 undef = Value.pointer (some ⟨w.heap.size, 0, none⟩) := inv.done 0 _ 3 rfl rfl rfl
      have q4 : a'.tmps.getD 4 undef = Value.int IntKind.i64 kind := inv.done 1 _ 4 rfl rfl rfl
      have q5 : a'.tmps.getD 5 undef = Value.int IntKind.i64 (m : Int) := inv.done 2 _ 5 rfl rfl rfl
      have q6 : a'.tmps.getD 6 undef = Value.bool true := inv.done 3 _ 6 rfl rfl rfl
      have q7 : a'.tmps.getD 7 undef = Value.bool true := inv.done 4 _ 7 rfl rfl rfl
      have q8 : a'.tmps.getD 8 undef = Value.pointer (some ⟨w.heap.size, 1, none⟩) := inv.done 5 _ 8 rfl rfl rfl
      have q9 : a'.tmps.getD 9 undef = Value.slice ao n.length cap := inv.done 6 _ 9 rfl rfl rfl
      have q10 : a'.tmps.getD 10 undef = Value.int IntKind.i64 (n.length : Int) := inv.done 7 _ 10 rfl rfl rfl
      have q11 : a'.tmps.getD 11 undef = Value.pointer (some ⟨w.heap.size, 0, none⟩) := inv.done 8 _ 11 rfl rfl rfl
      have q12 : a'.tmps.getD 12 undef = Value.int IntKind.i64 kind := inv.done 9 _ 12 rfl rfl rfl
      have q13 : a'.tmps.getD 13 undef = Value.int IntKind.i64 (m : Int) := inv.done 10 _ 13 rfl rfl rfl
      have q14 : a'.tmps.getD 14 undef = Value.bool true := inv.done 11 _ 14 rfl rfl rfl
      have q15 : a'.tmps.getD 15 undef = Value.bool true := inv.done 12 _ 15 rfl rfl rfl
      have q16 : a'.tmps.getD 16 undef = Value.bool true := inv.done 13 _ 16 rfl rfl rfl
      have q17 : a'.tmps.getD 17 undef = Value.pointer (some ⟨w.heap.size, 0, none⟩) := inv.done 14 _ 17 rfl rfl rfl
      have q18 : a'.tmps.getD 18 undef = Value.int IntKind.i64 kind := inv.done 15 _ 18 rfl rfl rfl
      have q19 : a'.tmps.getD 19 undef = Value.pointer (some ⟨w.heap.size, 2, none⟩) := inv.done 16 _ 19 rfl rfl rfl
      have q20 : a'.tmps.getD 20 undef = Value.string (str text) := inv.done 17 _ 20 rfl rfl rfl
      have q21 : a'.tmps.getD 21 undef = Value.int IntKind.i64 (text.length : Int) := inv.done 18 _ 21 rfl rfl rfl
      have q22 : a'.tmps.getD 22 undef = Value.bool (textB kind text.length) := inv.done 19 _ 22 rfl rfl rfl
      have q23 : a'.tmps.getD 23 undef = Value.bool (textB kind text.length) := inv.done 20 _ 23 rfl rfl rfl
      have q2 : a'.tmps.getD 2 undef = Value.bool (textB kind text.length) := inv.done 21 _ 2 rfl rfl rfl
      clear inv
      simp only [List.filterMap_cons, List.filterMap_nil, Par.putAll, Act.put, List.setIfInBounds_toArray, List.set_cons_succ, List.set_cons_zero, q3, q4, q5, q6, q7, q8, q9, q10, q11, q12, q13, q14, q15, q16, q17, q18, q19, q20, q21, q22, q23, q2]
      clear q3 q4 q5 q6 q7 q8 q9 q10 q11 q12 q13 q14 q15 q16 q17 q18 q19 q20 q21 q22 q23 q2
      clear a'
      go_wp2
      go_ret
      rw [HR.out]
      exact ⟨rfl, HE.out.trans hX⟩
    · have HR := hid (show rightB ⟨kind, n, text⟩ = false by
        have h3 : decide (n.length = many kind) = false := by simp [hm, h2]
        simp only [rightB, h3, Bool.and_false, Bool.false_and])
      have e2 : ((n.length : Int) == (m : Int)) = false := by
        rw [beq_eq_false_iff_ne]; omega
      clear h1 h2 hm
      go_enter Tryz.func80, Tryz.ntmps80
      go_wp2_with fail
      generalize w.alloc (.cells #[.int .i64 kind, .slice ao n.length cap, .string (str text)] 82) = W at *
      have HE := hid hE1
      have C0 := hid c0
      have C1 := hid c1
      clear hE1 c0 c1 c2
      refine Par.wp_region_par (l := [_, _, _, _, _, _, _, _, _, _, _, _, _, _, _, _, _, _, _, _, _, _]) rfl Ext (Par.VL [Par.EQ (Value.pointer (some ⟨w.heap.size, 0, none⟩)), Par.EQ (Value.int IntKind.i64 kind), Par.EQ (Value.int IntKind.i64 (m : Int)), Par.EQ (Value.bool true), Par.EQ (Value.bool true), Par.EQ (Value.pointer (some ⟨w.heap.size, 1, none⟩)), Par.EQ (Value.slice ao n.length cap), Par.EQ (Value.int IntKind.i64 (n.length : Int)), Par.EQ (Value.pointer (some ⟨w.heap.size, 0, none⟩)), Par.EQ (Value.int IntKind.i64 kind), Par.EQ (Value.int IntKind.i64 (m : Int)), Par.EQ (Value.bool false), Par.EQ (Value.bool false), Par.EQ (Value.bool false), Par.EQ (undef), Par.EQ (undef), Par.EQ (undef), Par.EQ (undef), Par.EQ (undef), Par.EQ (undef), Par.EQ (Value.bool false), Par.EQ (Value.bool false)]) (by kernel_rfl) Ext.refl (fun _ _ _ h1 h2 => Ext.trans h1 h2) (Ext.draw _) (Par.VL_stab ?_) ?_ ?_
      · simp only [List.forall_mem_cons, List.not_mem_nil, false_implies, implies_true, and_true]
        refine ⟨fun _ _ _ _ h => h, fun _ _ _ _ h => h, fun _ _ _ _ h => h, fun _ _ _ _ h => h, fun _ _ _ _ h => h, fun _ _ _ _ h => h, fun _ _ _ _ h => h, fun _ _ _ _ h => h, fun _ _ _ _ h => h, fun _ _ _ _ h => h, fun _ _ _ _ h => h, fun _ _ _ _ h => h, fun _ _ _ _ h => h, fun _ _ _ _ h => h, fun _ _ _ _ h => h, fun _ _ _ _ h => h, fun _ _ _ _ h => h, fun _ _ _ _ h => h, fun _ _ _ _ h => h, fun _ _ _ _ h => h, fun _ _ _ _ h => h, fun _ _ _ _ h => h⟩
      · refine ⟨⟨fun _ _ => trivial, fun ρ w' hX hG hk => ?_⟩, ?_⟩
        · obtain ⟨k0, -⟩ := hk
          have e0 : ρ (.tmp 1) = Value.pointer (some ⟨w.heap.size, 0, none⟩) := k0
          clear k0
          refine Par.val_k fun K hK => ?_
          unfold Par.val
          (go_simp; exact hK _ _ ⟨Ext.refl _, rfl⟩)
        refine ⟨⟨fun _ _ => trivial, fun ρ w' hX hG hk => ?_⟩, ?_⟩
        · obtain ⟨k0, -⟩ := hk
          have e0 : ρ (.tmp 3) = Value.pointer (some ⟨w.heap.size, 0, none⟩) := k0
          clear k0
          refine Par.val_k fun K hK => ?_
          unfold Par.val
          (have c := hX.cell C0.out; go_simp; exact hK _ _ ⟨Ext.refl _, rfl⟩)
        refine ⟨⟨fun _ _ => trivial, fun ρ w' hX hG hk => ?_⟩, ?_⟩
        · obtain ⟨k0, k1, -⟩ := hk
          have e0 := k0
          have e1 : ρ (.tmp 4) = Value.int IntKind.i64 kind := k1
          clear k0 k1
          refine Par.val_k fun K hK => ?_
          unfold Par.val
          refine Par.val_call Tryz.func98 (by kernel_rfl) rfl e0 ?_
          simp only [List.map_toArray, List.map_cons, List.map_nil, e1]
          refine (rmany_any kind _).mono ?_
          rintro e w2 ⟨rfl, h2⟩
          exact ⟨_, rfl, hK _ _ ⟨h2, (congrArg (Value.int IntKind.i64) HRM.out)⟩⟩
        refine ⟨⟨fun _ _ => trivial, fun ρ w' hX hG hk => ?_⟩, ?_⟩
        · obtain ⟨k0, k1, -⟩ := hk
          have e0 : ρ (.tmp 5) = Value.int IntKind.i64 (m : Int) := k0
          have e1 : ρ (Operand.const (Value.int IntKind.i64 0)) = (Value.int IntKind.i64 0) := k1
          clear k0 k1
          refine Par.val_k fun K hK => ?_
          unfold Par.val
          (go_simp; exact hK _ _ ⟨Ext.refl _, rfl⟩)
        refine ⟨⟨fun _ _ => trivial, fun ρ w' hX hG hk => ?_⟩, ?_⟩
        · exact Par.val_of_run rfl ⟨Ext.refl _, hk.1⟩
        refine ⟨⟨fun _ _ u hu => .inl hu, fun ρ w' hX hG hk => ?_⟩, ?_⟩
        · obtain ⟨k0, -⟩ := hk
          have e0 : ρ (.tmp 1) = Value.pointer (some ⟨w.heap.size, 0, none⟩) := k0
          clear k0
          refine Par.val_k fun K hK => ?_
          unfold Par.val
          (go_simp; exact hK _ _ ⟨Ext.refl _, rfl⟩)
        refine ⟨⟨fun _ _ u hu => .inl hu, fun ρ w' hX hG hk => ?_⟩, ?_⟩
        · obtain ⟨k0, -⟩ := hk
          have e0 : ρ (.tmp 8) = Value.pointer (some ⟨w.heap.size, 1, none⟩) := k0
          clear k0
          refine Par.val_k fun K hK => ?_
          unfold Par.val
          (have c := hX.cell C1.out; go_simp; exact hK _ _ ⟨Ext.refl _, rfl⟩)
        refine ⟨⟨fun _ _ u hu => .inl hu, fun ρ w' hX hG hk => ?_⟩, ?_⟩
        · obtain ⟨k0, -⟩ := hk
          have e0 : ρ (.tmp 9) = Value.slice ao n.length cap := k0
          clear k0
          refine Par.val_k fun K hK => ?_
          unfold Par.val
          (go_simp; exact hK _ _ ⟨Ext.refl _, rfl⟩)
        refine ⟨⟨fun _ _ u hu => .inl hu, fun ρ w' hX hG hk => ?_⟩, ?_⟩
        · obtain ⟨k0, -⟩ := hk
          have e0 : ρ (.tmp 1) = Value.pointer (some ⟨w.heap.size, 0, none⟩) := k0
          clear k0
          refine Par.val_k fun K hK => ?_
          unfold Par.val
          (go_simp; exact hK _ _ ⟨Ext.refl _, rfl⟩)
        refine ⟨⟨fun _ _ u hu => .inl hu, fun ρ w' hX hG hk => ?_⟩, ?_⟩
        · obtain ⟨k0, -⟩ := hk
          have e0 : ρ (.tmp 11) = Value.pointer (some ⟨w.heap.size, 0, none⟩) := k0
          clear k0
          refine Par.val_k fun K hK => ?_
          unfold Par.val
          (have c := hX.cell C0.out; go_simp; exact hK _ _ ⟨Ext.refl _, rfl⟩)
        refine ⟨⟨fun _ _ u hu => .inl hu, fun ρ w' hX hG hk => ?_⟩, ?_⟩
        · obtain ⟨k0, k1, -⟩ := hk
          have e0 := k0
          have e1 : ρ (.tmp 12) = Value.int IntKind.i64 kind := k1
          clear k0 k1
          refine Par.val_k fun K hK => ?_
          unfold Par.val
          refine Par.val_call Tryz.func98 (by kernel_rfl) rfl e0 ?_
          simp only [List.map_toArray, List.map_cons, List.map_nil, e1]
          refine (rmany_any kind _).mono ?_
          rintro e w2 ⟨rfl, h2⟩
          exact ⟨_, rfl, hK _ _ ⟨h2, (congrArg (Value.int IntKind.i64) HRM.out)⟩⟩
        refine ⟨⟨fun _ _ u hu => .inl hu, fun ρ w' hX hG hk => ?_⟩, ?_⟩
        · obtain ⟨k0, k1, -⟩ := hk
          have e0 : ρ (.tmp 10) = Value.int IntKind.i64 (n.length : Int) := k0
          have e1 : ρ (.tmp 13) = Value.int IntKind.i64 (m : Int) := k1
          clear k0 k1
          refine Par.val_k fun K hK => ?_
          unfold Par.val
          (go_simp; exact hK _ _ ⟨Ext.refl _, rfl⟩)
        refine ⟨⟨fun _ _ => trivial, fun ρ w' hX hG hk => ?_⟩, ?_⟩
        · obtain ⟨k0, k1, k2, -⟩ := hk
          have e0 : ρ (.tmp 7) = Value.bool true := k0
          have e1 : ρ (.tmp 14) = Value.bool false := k1
          have e2 : ρ (Operand.const (Value.bool false)) = (Value.bool false) := k2
          clear k0 k1 k2
          refine Par.val_k fun K hK => ?_
          unfold Par.val
          (go_simp; exact hK _ _ ⟨Ext.refl _, rfl⟩)
        refine ⟨⟨fun _ _ => trivial, fun ρ w' hX hG hk => ?_⟩, ?_⟩
        · exact Par.val_of_run rfl ⟨Ext.refl _, hk.1⟩
        refine ⟨⟨fun _ _ u hu => .inr rfl, fun ρ w' hX hG hk => ?_⟩, ?_⟩
        · cases hG
        refine ⟨⟨fun _ _ u hu => .inr rfl, fun ρ w' hX hG hk => ?_⟩, ?_⟩
        · cases hG
        refine ⟨⟨fun _ _ u hu => .inr rfl, fun ρ w' hX hG hk => ?_⟩, ?_⟩
        · cases hG
        refine ⟨⟨fun _ _ u hu => .inr rfl, fun ρ w' hX hG hk => ?_⟩, ?_⟩
        · cases hG
        refine ⟨⟨fun _ _ u hu => .inr rfl, fun ρ w' hX hG hk => ?_⟩, ?_⟩
        · cases hG
        refine ⟨⟨fun _ _ u hu => .inr rfl, fun ρ w' hX hG hk => ?_⟩, ?_⟩
        · cases hG
        refine ⟨⟨fun _ _ => trivial, fun ρ w' hX hG hk => ?_⟩, ?_⟩
        · obtain ⟨k0, k1, k2, -⟩ := hk
          have e0 : ρ (.tmp 16) = Value.bool false := k0
          have e1 : ρ (.tmp 22) = undef := k1
          have e2 : ρ (Operand.const (Value.bool false)) = (Value.bool false) := k2
          clear k0 k1 k2
          refine Par.val_k fun K hK => ?_
          unfold Par.val
          (go_simp; exact hK _ _ ⟨Ext.refl _, rfl⟩)
        refine ⟨⟨fun _ _ => trivial, fun ρ w' hX hG hk => ?_⟩, ?_⟩
        · obtain ⟨k0, -⟩ := hk
          have e0 : ρ (.tmp 23) = Value.bool false := k0
          clear k0
          refine Par.val_k fun K hK => ?_
          unfold Par.val
          (go_simp; exact hK _ _ ⟨Ext.refl _, rfl⟩)
        trivial
      intro a' w' inv
      have hX := inv.ext
      have q3 : a'.tmps.getD 3 undef = Value.pointer (some ⟨w.heap.size, 0, none⟩) := inv.done 0 _ 3 rfl rfl rfl
      have q4 : a'.tmps.getD 4 undef = Value.int IntKind.i64 kind := inv.done 1 _ 4 rfl rfl rfl
      have q5 : a'.tmps.getD 5 undef = Value.int IntKind.i64 (m : Int) := inv.done 2 _ 5 rfl rfl rfl
      have q6 : a'.tmps.getD 6 undef = Value.bool true := inv.done 3 _ 6 rfl rfl rfl
      have q7 : a'.tmps.getD 7 undef = Value.bool true := inv.done 4 _ 7 rfl rfl rfl
      have q8 : a'.tmps.getD 8 undef = Value.pointer (some ⟨w.heap.size, 1, none⟩) := inv.done 5 _ 8 rfl rfl rfl
      have q9 : a'.tmps.getD 9 undef = Value.slice ao n.length cap := inv.done 6 _ 9 rfl rfl rfl
      have q10 : a'.tmps.getD 10 undef = Value.int IntKind.i64 (n.length : Int) := inv.done 7 _ 10 rfl rfl rfl
      have q11 : a'.tmps.getD 11 undef = Value.pointer (some ⟨w.heap.size, 0, none⟩) := inv.done 8 _ 11 rfl rfl rfl
      have q12 : a'.tmps.getD 12 undef = Value.int IntKind.i64 kind := inv.done 9 _ 12 rfl rfl rfl
      have q13 : a'.tmps.getD 13 undef = Value.int IntKind.i64 (m : Int) := inv.done 10 _ 13 rfl rfl rfl
      have q14 : a'.tmps.getD 14 undef = Value.bool false := inv.done 11 _ 14 rfl rfl rfl
      have q15 : a'.tmps.getD 15 undef = Value.bool false := inv.done 12 _ 15 rfl rfl rfl
      have q16 : a'.tmps.getD 16 undef = Value.bool false := inv.done 13 _ 16 rfl rfl rfl
      have q17 : a'.tmps.getD 17 undef = undef := inv.done 14 _ 17 rfl rfl rfl
      have q18 : a'.tmps.getD 18 undef = undef := inv.done 15 _ 18 rfl rfl rfl
      have q19 : a'.tmps.getD 19 undef = undef := inv.done 16 _ 19 rfl rfl rfl
      have q20 : a'.tmps.getD 20 undef = undef := inv.done 17 _ 20 rfl rfl rfl
      have q21 : a'.tmps.getD 21 undef = undef := inv.done 18 _ 21 rfl rfl rfl
      have q22 : a'.tmps.getD 22 undef = undef := inv.done 19 _ 22 rfl rfl rfl
      have q23 : a'.tmps.getD 23 undef = Value.bool false := inv.done 20 _ 23 rfl rfl rfl
      have q2 : a'.tmps.getD 2 undef = Value.bool false := inv.done 21 _ 2 rfl rfl rfl
      clear inv
      simp only [List.filterMap_cons, List.filterMap_nil, Par.putAll, Act.put, List.setIfInBounds_toArray, List.set_cons_succ, List.set_cons_zero, q3, q4, q5, q6, q7, q8, q9, q10, q11, q12, q13, q14, q15, q16, q17, q18, q19, q20, q21, q22, q23, q2]
      clear q3 q4 q5 q6 q7 q8 q9 q10 q11 q12 q13 q14 q15 q16 q17 q18 q19 q20 q21 q22 q23 q2
      clear a'
      go_wp2
      go_ret
      rw [HR.out]
      exact ⟨rfl, HE.out.trans hX⟩
  · replace h1 : knownB kind = false := by simpa using h1
    have HR := hid (show rightB ⟨kind, n, text⟩ = false by simp only [rightB, h1, Bool.false_and])
    have HRM := hid (rmany_no h1)
    clear h1
    go_enter Tryz.func80, Tryz.ntmps80
    go_wp2_with fail
    generalize w.alloc (.cells #[.int .i64 kind, .slice ao n.length cap, .string (str text)] 82) = W at *
    have HE := hid hE1
    have C0 := hid c0
    clear hE1 c0 c1 c2
    refine Par.wp_region_par (l := [_, _, _, _, _, _, _, _, _, _, _, _, _, _, _, _, _, _, _, _, _, _]) rfl Ext (Par.VL [Par.EQ (Value.pointer (some ⟨w.heap.size, 0, none⟩)), Par.EQ (Value.int IntKind.i64 kind), Par.EQ (Value.int IntKind.i64 (-1)), Par.EQ (Value.bool false), Par.EQ (Value.bool false), Par.EQ (undef), Par.EQ (undef), Par.EQ (undef), Par.EQ (undef), Par.EQ (undef), Par.EQ (undef), Par.EQ (undef), Par.EQ (Value.bool false), Par.EQ (Value.bool false), Par.EQ (undef), Par.EQ (undef), Par.EQ (undef), Par.EQ (undef), Par.EQ (undef), Par.EQ (undef), Par.EQ (Value.bool false), Par.EQ (Value.bool false)]) (by kernel_rfl) Ext.refl (fun _ _ _ h1 h2 => Ext.trans h1 h2) (Ext.draw _) (Par.VL_stab ?_) ?_ ?_
    · simp only [List.forall_mem_cons, List.not_mem_nil, false_implies, implies_true, and_true]
      refine ⟨fun _ _ _ _ h => h, fun _ _ _ _ h => h, fun _ _ _ _ h => h, fun _ _ _ _ h => h, fun _ _ _ _ h => h, fun _ _ _ _ h => h, fun _ _ _ _ h => h, fun _ _ _ _ h => h, fun _ _ _ _ h => h, fun _ _ _ _ h => h, fun _ _ _ _ h => h, fun _ _ _ _ h => h, fun _ _ _ _ h => h, fun _ _ _ _ h => h, fun _ _ _ _ h => h, fun _ _ _ _ h => h, fun _ _ _ _ h => h, fun _ _ _ _ h => h, fun _ _ _ _ h => h, fun _ _ _ _ h => h, fun _ _ _ _ h => h, fun _ _ _ _ h => h⟩
    · refine ⟨⟨fun _ _ => trivial, fun ρ w' hX hG hk => ?_⟩, ?_⟩
      · obtain ⟨k0, -⟩ := hk
        have e0 : ρ (.tmp 1) = Value.pointer (some ⟨w.heap.size, 0, none⟩) := k0
        clear k0
        refine Par.val_k fun K hK => ?_
        unfold Par.val
        (go_simp; exact hK _ _ ⟨Ext.refl _, rfl⟩)
      refine ⟨⟨fun _ _ => trivial, fun ρ w' hX hG hk => ?_⟩, ?_⟩
      · obtain ⟨k0, -⟩ := hk
        have e0 : ρ (.tmp 3) = Value.pointer (some ⟨w.heap.size, 0, none⟩) := k0
        clear k0
        refine Par.val_k fun K hK => ?_
        unfold Par.val
        (have c := hX.cell C0.out; go_simp; exact hK _ _ ⟨Ext.refl _, rfl⟩)
      refine ⟨⟨fun _ _ => trivial, fun ρ w' hX hG hk => ?_⟩, ?_⟩
      · obtain ⟨k0, k1, -⟩ := hk
        have e0 := k0
        have e1 : ρ (.tmp 4) = Value.int IntKind.i64 kind := k1
        clear k0 k1
        refine Par.val_k fun K hK => ?_
        unfold Par.val
        refine Par.val_call Tryz.func98 (by kernel_rfl) rfl e0 ?_
        simp only [List.map_toArray, List.map_cons, List.map_nil, e1]
        refine (rmany_any kind _).mono ?_
        rintro e w2 ⟨rfl, h2⟩
        exact ⟨_, rfl, hK _ _ ⟨h2, (congrArg (Value.int IntKind.i64) HRM.out)⟩⟩
      refine ⟨⟨fun _ _ => trivial, fun ρ w' hX hG hk => ?_⟩, ?_⟩
      · obtain ⟨k0, k1, -⟩ := hk
        have e0 : ρ (.tmp 5) = Value.int IntKind.i64 (-1) := k0
        have e1 : ρ (Operand.const (Value.int IntKind.i64 0)) = (Value.int IntKind.i64 0) := k1
        clear k0 k1
        refine Par.val_k fun K hK => ?_
        unfold Par.val
        (go_simp; exact hK _ _ ⟨Ext.refl _, rfl⟩)
      refine ⟨⟨fun _ _ => trivial, fun ρ w' hX hG hk => ?_⟩, ?_⟩
      · exact Par.val_of_run rfl ⟨Ext.refl _, hk.1⟩
      refine ⟨⟨fun _ _ u hu => .inr rfl, fun ρ w' hX hG hk => ?_⟩, ?_⟩
      · cases hG
      refine ⟨⟨fun _ _ u hu => .inr rfl, fun ρ w' hX hG hk => ?_⟩, ?_⟩
      · cases hG
      refine ⟨⟨fun _ _ u hu => .inr rfl, fun ρ w' hX hG hk => ?_⟩, ?_⟩
      · cases hG
      refine ⟨⟨fun _ _ u hu => .inr rfl, fun ρ w' hX hG hk => ?_⟩, ?_⟩
      · cases hG
      refine ⟨⟨fun _ _ u hu => .inr rfl, fun ρ w' hX hG hk => ?_⟩, ?_⟩
      · cases hG
      refine ⟨⟨fun _ _ u hu => .inr rfl, fun ρ w' hX hG hk => ?_⟩, ?_⟩
      · cases hG
      refine ⟨⟨fun _ _ u hu => .inr rfl, fun ρ w' hX hG hk => ?_⟩, ?_⟩
      · cases hG
      refine ⟨⟨fun _ _ => trivial, fun ρ w' hX hG hk => ?_⟩, ?_⟩
      · obtain ⟨k0, k1, k2, -⟩ := hk
        have e0 : ρ (.tmp 7) = Value.bool false := k0
        have e1 : ρ (.tmp 14) = undef := k1
        have e2 : ρ (Operand.const (Value.bool false)) = (Value.bool false) := k2
        clear k0 k1 k2
        refine Par.val_k fun K hK => ?_
        unfold Par.val
        (go_simp; exact hK _ _ ⟨Ext.refl _, rfl⟩)
      refine ⟨⟨fun _ _ => trivial, fun ρ w' hX hG hk => ?_⟩, ?_⟩
      · exact Par.val_of_run rfl ⟨Ext.refl _, hk.1⟩
      refine ⟨⟨fun _ _ u hu => .inr rfl, fun ρ w' hX hG hk => ?_⟩, ?_⟩
      · cases hG
      refine ⟨⟨fun _ _ u hu => .inr rfl, fun ρ w' hX hG hk => ?_⟩, ?_⟩
      · cases hG
      refine ⟨⟨fun _ _ u hu => .inr rfl, fun ρ w' hX hG hk => ?_⟩, ?_⟩
      · cases hG
      refine ⟨⟨fun _ _ u hu => .inr rfl, fun ρ w' hX hG hk => ?_⟩, ?_⟩
      · cases hG
      refine ⟨⟨fun _ _ u hu => .inr rfl, fun ρ w' hX hG hk => ?_⟩, ?_⟩
      · cases hG
      refine ⟨⟨fun _ _ u hu => .inr rfl, fun ρ w' hX hG hk => ?_⟩, ?_⟩
      · cases hG
      refine ⟨⟨fun _ _ => trivial, fun ρ w' hX hG hk => ?_⟩, ?_⟩
      · obtain ⟨k0, k1, k2, -⟩ := hk
        have e0 : ρ (.tmp 16) = Value.bool false := k0
        have e1 : ρ (.tmp 22) = undef := k1
        have e2 : ρ (Operand.const (Value.bool false)) = (Value.bool false) := k2
        clear k0 k1 k2
        refine Par.val_k fun K hK => ?_
        unfold Par.val
        (go_simp; exact hK _ _ ⟨Ext.refl _, rfl⟩)
      refine ⟨⟨fun _ _ => trivial, fun ρ w' hX hG hk => ?_⟩, ?_⟩
      · obtain ⟨k0, -⟩ := hk
        have e0 : ρ (.tmp 23) = Value.bool false := k0
        clear k0
        refine Par.val_k fun K hK => ?_
        unfold Par.val
        (go_simp; exact hK _ _ ⟨Ext.refl _, rfl⟩)
      trivial
    intro a' w' inv
    have hX := inv.ext
    have q3 : a'.tmps.getD 3 undef = Value.pointer (some ⟨w.heap.size, 0, none⟩) := inv.done 0 _ 3 rfl rfl rfl
    have q4 : a'.tmps.getD 4 undef = Value.int IntKind.i64 kind := inv.done 1 _ 4 rfl rfl rfl
    have q5 : a'.tmps.getD 5 undef = Value.int IntKind.i64 (-1) := inv.done 2 _ 5 rfl rfl rfl
    have q6 : a'.tmps.getD 6 undef = Value.bool false := inv.done 3 _ 6 rfl rfl rfl
    have q7 : a'.tmps.getD 7 undef = Value.bool false := inv.done 4 _ 7 rfl rfl rfl
    have q8 : a'.tmps.getD 8 undef = undef := inv.done 5 _ 8 rfl rfl rfl
    have q9 : a'.tmps.getD 9 undef = undef := inv.done 6 _ 9 rfl rfl rfl
    have q10 : a'.tmps.getD 10 undef = undef := inv.done 7 _ 10 rfl rfl rfl
    have q11 : a'.tmps.getD 11 undef = undef := inv.done 8 _ 11 rfl rfl rfl
    have q12 : a'.tmps.getD 12 undef = undef := inv.done 9 _ 12 rfl rfl rfl
    have q13 : a'.tmps.getD 13 undef = undef := inv.done 10 _ 13 rfl rfl rfl
    have q14 : a'.tmps.getD 14 undef = undef := inv.done 11 _ 14 rfl rfl rfl
    have q15 : a'.tmps.getD 15 undef = Value.bool false := inv.done 12 _ 15 rfl rfl rfl
    have q16 : a'.tmps.getD 16 undef = Value.bool false := inv.done 13 _ 16 rfl rfl rfl
    have q17 : a'.tmps.getD 17 undef = undef := inv.done 14 _ 17 rfl rfl rfl
    have q18 : a'.tmps.getD 18 undef = undef := inv.done 15 _ 18 rfl rfl rfl
    have q19 : a'.tmps.getD 19 undef = undef := inv.done 16 _ 19 rfl rfl rfl
    have q20 : a'.tmps.getD 20 undef = undef := inv.done 17 _ 20 rfl rfl rfl
    have q21 : a'.tmps.getD 21 undef = undef := inv.done 18 _ 21 rfl rfl rfl
    have q22 : a'.tmps.getD 22 undef = undef := inv.done 19 _ 22 rfl rfl rfl
    have q23 : a'.tmps.getD 23 undef = Value.bool false := inv.done 20 _ 23 rfl rfl rfl
    have q2 : a'.tmps.getD 2 undef = Value.bool false := inv.done 21 _ 2 rfl rfl rfl
    clear inv
    simp only [List.filterMap_cons, List.filterMap_nil, Par.putAll, Act.put, List.setIfInBounds_toArray, List.set_cons_succ, List.set_cons_zero, q3, q4, q5, q6, q7, q8, q9, q10, q11, q12, q13, q14, q15, q16, q17, q18, q19, q20, q21, q22, q23, q2]
    clear q3 q4 q5 q6 q7 q8 q9 q10 q11 q12 q13 q14 q15 q16 q17 q18 q19 q20 q21 q22 q23 q2
    clear a'
    go_wp2
    go_ret
    rw [HR.out]
    exact ⟨rfl, HE.out.trans hX⟩

theorem rbytes5_any (r : Rc) (v : Value) (w : World) (hv : Vec uv w v r.n) :
    Calls Tryz.prog 42 #[rv r v] w fun e w' => ∃ x, e = .returned (.tuple #[x, .int .i64 (recBytes r).2]) ∧ Own w' w.heap.size 5 x (recBytes r).1 ∧ Ext w w' := by
  obtain ⟨ao, cap, rfl, -⟩ := hv.open
  obtain ⟨kind, n, text⟩ := r
  have HV := hid hv
  clear hv
  have hE1 := Ext.alloc w (.cells #[.int .i64 kind, .slice ao n.length cap, .string (str text)] 82)
  obtain ⟨c0, c1, c2⟩ := blk3 (heap_alloc_new w (.cells #[.int .i64 kind, .slice ao n.length cap, .string (str text)] 82))
  obtain ⟨B, hB⟩ : ∃ B, rightB ⟨kind, n, text⟩ = B := ⟨_, rfl⟩
  have HB := hid hB
  clear hB
  go_enter Tryz.func42, Tryz.ntmps42
  go_wp2_with fail
  generalize w.alloc (.cells #[.int .i64 kind, .slice ao n.length cap, .string (str text)] 82) = W at *
  have HE := hid hE1
  clear hE1
  go_wp2_with fail
  refine (rright5_any ⟨kind, n, text⟩ (.slice ao n.length cap) _ (HV.out.ext HE.out)).mono ?_
  rintro e w1 ⟨rfl, hw1⟩
  rw [HB.out]
  have d0 := hw1.cell c0
  have d1 := hw1.cell c1
  have d2 := hw1.cell c2
  have HE1 := hid (HE.out.trans hw1)
  clear c0 c1 c2 hw1
  cases B with
  | false =>
    have HR := hid (recBytes_bad HB.out)
    go_wp2
    go_ret2
    rw [HR.out]
    exact ⟨_, rfl, Own.nil _ _ _, HE1.out⟩
  | true =>
    have HR := hid (recBytes_ok HB.out)
    obtain ⟨hn, htx, hk1, hk2⟩ := right_num HB.out
    simp only at hn htx hk1 hk2
    have hw8 := kind_wrap hk1 hk2
    obtain ⟨k8, hk8⟩ : ∃ k8, UInt8.ofNat kind.toNat = k8 := ⟨_, rfl⟩
    rw [hk8] at hw8
    have hfv : recFr ⟨kind, n, text⟩ = ⟨k8, vall n ++ text⟩ := by rw [← hk8]; rfl
    have hfb : fbytesR (recFr ⟨kind, n, text⟩) = (fbytes (recFr ⟨kind, n, text⟩), 0) := by
      unfold fbytesR; rw [if_neg (by have := body_le HB.out; simp only [recFr]; omega)]
    rw [hfv] at hfb
    obtain ⟨FB, hFB⟩ : ∃ FB, fbytes ⟨k8, vall n ++ text⟩ = FB := ⟨_, rfl⟩
    rw [hFB] at hfb
    have HFB := hid (show fbytes (recFr ⟨kind, n, text⟩) = FB by rw [hfv, hFB])
    have HFR := hid hfb
    clear hk8 hfv hfb hFB
    have hvl := vall_len n
    go_wp2_with fail
    have C0 := hid d0
    have C1 := hid d1
    have C2 := hid d2
    have HVL := hid hvl
    clear d0 d1 d2 hvl
    refine ParB.wp_region_par (l := [_, _, _, _, _, _, _, _, _, _, _, _, _, _, _, _]) rfl Ext (ParB.XI 9 (World.heap w1).size) (ParB.VLB [ParB.EQ (Value.pointer (some ⟨w.heap.size, 0, none⟩)), ParB.EQ (Value.int IntKind.i64 kind), ParB.EQ (Value.int IntKind.u8 (k8.toNat : Int)), ParB.EQ (Value.pointer (some ⟨w.heap.size, 1, none⟩)), ParB.EQ (Value.slice ao n.length cap), (fun L v w' => L 9 = true ∨ Own w' w1.heap.size 5 v (vall n)), ParB.EQ (Value.pointer (some ⟨w.heap.size, 2, none⟩)), ParB.EQ (Value.string (str text)), (fun L v w' => L 9 = true ∨ Byt w' v text), (fun L v w' => L 9 = true ∧ Own w' w1.heap.size 5 v (vall n ++ text)), (fun L v w' => L 9 = true ∧ ∃ r, v = .agg #[.int .u8 (k8.toNat : Int), r] ∧ Own w' w1.heap.size 5 r (vall n ++ text)), (fun L v w' => L 9 = true ∧ ∃ r, v = .tuple #[r, .int .i64 0] ∧ Own w' w1.heap.size 5 r FB), (fun L v w' => L 9 = true ∧ Own w' w1.heap.size 5 v FB), (fun L v w' => L 9 = true ∧ v = .int .i64 0), (fun L v w' => L 9 = true ∧ Own w' w1.heap.size 5 v FB), (fun L v w' => L 9 = true ∧ v = .int .i64 0)]) (by kernel_rfl) (ParB.XI_refl _ _) ParB.XI_trans (Ext.draw _) (ParB.stab_mk 5 (by kernel_rfl) ?_ ?_) ?_ ?_
    · simp only [List.forall_mem_cons, List.not_mem_nil, false_implies, implies_true, and_true]
      refine ⟨fun _ _ _ _ _ _ h => h, fun _ _ _ _ _ _ h => h, fun _ _ _ _ _ _ h => h, fun _ _ _ _ _ _ h => h, fun _ _ _ _ _ _ h => h, fun i L v a b k hh => hh.imp (fun e => by simp [ParB.upd, e]) (fun q => q.ext k), fun _ _ _ _ _ _ h => h, fun _ _ _ _ _ _ h => h, fun i L v a b k hh => hh.imp (fun e => by simp [ParB.upd, e]) (fun q => q.ext k), fun i L v a b k hh => ⟨by simp [ParB.upd, hh.1], hh.2.ext k⟩, fun i L v a b k hh => ⟨by simp [ParB.upd, hh.1], hh.2.imp fun r q => ⟨q.1, q.2.ext k⟩⟩, fun i L v a b k hh => ⟨by simp [ParB.upd, hh.1], hh.2.imp fun r q => ⟨q.1, q.2.ext k⟩⟩, fun i L v a b k hh => ⟨by simp [ParB.upd, hh.1], hh.2.ext k⟩, fun i L v a b k hh => ⟨by simp [ParB.upd, hh.1], hh.2⟩, fun i L v a b k hh => ⟨by simp [ParB.upd, hh.1], hh.2.ext k⟩, fun i L v a b k hh => ⟨by simp [ParB.upd, hh.1], hh.2⟩⟩
    · simp only [List.set_cons_succ, List.set_cons_zero, List.forall_mem_cons, List.not_mem_nil, false_implies, implies_true, and_true, true_and]
      refine ⟨fun _ _ _ _ _ _ h => h, fun _ _ _ _ _ _ h => h, fun _ _ _ _ _ _ h => h, fun _ _ _ _ _ _ h => h, fun _ _ _ _ _ _ h => h, fun L v a b hL k hh => .inl (by simp [ParB.upd]), fun _ _ _ _ _ _ h => h, fun _ _ _ _ _ _ h => h, fun L v a b hL k hh => .inl (by simp [ParB.upd]), fun L v a b hL k hh => absurd hh.1 (by simp [hL]), fun L v a b hL k hh => absurd hh.1 (by simp [hL]), fun L v a b hL k hh => absurd hh.1 (by simp [hL]), fun L v a b hL k hh => absurd hh.1 (by simp [hL]), fun L v a b hL k hh => absurd hh.1 (by simp [hL]), fun L v a b hL k hh => absurd hh.1 (by simp [hL])⟩
    · refine ⟨⟨fun _ _ _ => trivial, fun L ρ w' hX hL hG hk => ?_⟩, ?_⟩
      · obtain ⟨k0, -⟩ := hk
        have e0 : ρ (.tmp 1) = Value.pointer (some ⟨w.heap.size, 0, none⟩) := k0
        clear k0
        refine Par.val_k fun K hK => ?_
        unfold Par.val
        (go_simp; exact hK _ _ ⟨ParB.XI_refl _ _ 0 _, rfl⟩)
      refine ⟨⟨fun _ _ _ => trivial, fun L ρ w' hX hL hG hk => ?_⟩, ?_⟩
      · obtain ⟨k0, -⟩ := hk
        have e0 : ρ (.tmp 7) = Value.pointer (some ⟨w.heap.size, 0, none⟩) := k0
        clear k0
        refine Par.val_k fun K hK => ?_
        unfold Par.val
        (have c := hX.cell C0.out; go_simp; exact hK _ _ ⟨ParB.XI_refl _ _ 1 _, rfl⟩)
      refine ⟨⟨fun _ _ _ => trivial, fun L ρ w' hX hL hG hk => ?_⟩, ?_⟩
      · obtain ⟨k0, -⟩ := hk
        have e0 : ρ (.tmp 8) = Value.int IntKind.i64 kind := k0
        clear k0
        refine Par.val_k fun K hK => ?_
        unfold Par.val
        (go_simp; exact hK _ _ ⟨ParB.XI_refl _ _ 2 _, rfl⟩)
      refine ⟨⟨fun _ _ _ => trivial, fun L ρ w' hX hL hG hk => ?_⟩, ?_⟩
      · obtain ⟨k0, -⟩ := hk
        have e0 : ρ (.tmp 1) = Value.pointer (some ⟨w.heap.size, 0, none⟩) := k0
        clear k0
        refine Par.val_k fun K hK => ?_
        unfold Par.val
        (go_simp; exact hK _ _ ⟨ParB.XI_refl _ _ 3 _, rfl⟩)
      refine ⟨⟨fun _ _ _ => trivial, fun L ρ w' hX hL hG hk => ?_⟩, ?_⟩
      · obtain ⟨k0, -⟩ := hk
        have e0 : ρ (.tmp 10) = Value.pointer (some ⟨w.heap.size, 1, none⟩) := k0
        clear k0
        refine Par.val_k fun K hK => ?_
        unfold Par.val
        (have c := hX.cell C1.out; go_simp; exact hK _ _ ⟨ParB.XI_refl _ _ 4 _, rfl⟩)
      refine ⟨⟨fun _ _ _ => trivial, fun L ρ w' hX hL hG hk => ?_⟩, ?_⟩
      · obtain ⟨k0, k1, -⟩ := hk
        have e0 := k0
        have e1 : ρ (.tmp 11) = Value.slice ao n.length cap := k1
        clear k0 k1
        refine Par.val_k fun K hK => ?_
        unfold Par.val
        refine Par.val_call Tryz.func82 (by kernel_rfl) rfl e0 ?_
        simp only [List.map_toArray, List.map_cons, List.map_nil, e1]
        refine (rall_any _ n _ ((HV.out.ext HE1.out).ext hX) (by omega)).mono ?_
        rintro e w2 ⟨r, rfl, hr, hx2⟩
        exact ⟨_, rfl, hK _ _ ⟨ParB.XI_other (i0 := 9) (i := 5) (by decide) (hx2), .inr (hr.mono hX.size)⟩⟩
      refine ⟨⟨fun _ _ _ => trivial, fun L ρ w' hX hL hG hk => ?_⟩, ?_⟩
      · obtain ⟨k0, -⟩ := hk
        have e0 : ρ (.tmp 1) = Value.pointer (some ⟨w.heap.size, 0, none⟩) := k0
        clear k0
        refine Par.val_k fun K hK => ?_
        unfold Par.val
        (go_simp; exact hK _ _ ⟨ParB.XI_refl _ _ 6 _, rfl⟩)
      refine ⟨⟨fun _ _ _ => trivial, fun L ρ w' hX hL hG hk => ?_⟩, ?_⟩
      · obtain ⟨k0, -⟩ := hk
        have e0 : ρ (.tmp 13) = Value.pointer (some ⟨w.heap.size, 2, none⟩) := k0
        clear k0
        refine Par.val_k fun K hK => ?_
        unfold Par.val
        (have c := hX.cell C2.out; go_simp; exact hK _ _ ⟨ParB.XI_refl _ _ 7 _, rfl⟩)
      refine ⟨⟨fun _ _ _ => trivial, fun L ρ w' hX hL hG hk => ?_⟩, ?_⟩
      · obtain ⟨k0, -⟩ := hk
        have e0 : ρ (.tmp 14) = Value.string (str text) := k0
        clear k0
        refine Par.val_k fun K hK => ?_
        unfold Par.val
        (obtain ⟨ao2, cap2, w2, hr, hb2, hx2⟩ := run_convert_str (P := Tryz.prog) w' 9 37 5 text (by omega) Tryz.underlying9 Tryz.underlying37 Tryz.underlying5; rw [← e0] at hr; refine val_convert hr (hK _ _ ⟨ParB.XI_other (i0 := 9) (i := 8) (by decide) hx2, .inr hb2⟩))
      refine ⟨⟨fun _ _ _ => trivial, fun L ρ w' hX hL hG hk => ?_⟩, ?_⟩
      · obtain ⟨k0, k1, -⟩ := hk
        have e0 : (fun L v w' => L 9 = true ∨ Own w' w1.heap.size 5 v (vall n)) L (ρ (.tmp 12)) w' := k0
        have e1 : (fun L v w' => L 9 = true ∨ Byt w' v text) L (ρ (.tmp 15)) w' := k1
        clear k0 k1
        refine Par.val_k fun K hK => ?_
        unfold Par.val
        (have ho := e0.resolve_left (by simp [hL]); have hby := e1.resolve_left (by simp [hL]); obtain ⟨ao2, cap2, w2, hr, ho2, hg2, hb2⟩ := run_append_byt (P := Tryz.prog) w1.heap.size 37 37 5 Tryz.underlying37 info8 ho hby (by have := HVL.out; omega) hX.size; refine Par.val_append hr (hK _ _ ⟨ParB.XI_same hb2, by simp [ParB.upd], ho2⟩))
      refine ⟨⟨fun _ _ _ => trivial, fun L ρ w' hX hL hG hk => ?_⟩, ?_⟩
      · obtain ⟨k0, k1, -⟩ := hk
        have e0 : ρ (.tmp 9) = Value.int IntKind.u8 (k8.toNat : Int) := k0
        have e1 : (fun L v w' => L 9 = true ∧ Own w' w1.heap.size 5 v (vall n ++ text)) L (ρ (.tmp 16)) w' := k1
        clear k0 k1
        refine Par.val_k fun K hK => ?_
        unfold Par.val
        (obtain ⟨h9, ho9⟩ := e1; obtain ⟨ao9, cp9, hs9, -⟩ := ho9.byt.open; rw [hs9, List.length_append] at ho9; go_simp; exact hK _ _ ⟨ParB.XI_refl _ _ 10 _, by simp [ParB.upd, h9], _, rfl, ho9⟩)
      refine ⟨⟨fun _ _ _ => trivial, fun L ρ w' hX hL hG hk => ?_⟩, ?_⟩
      · obtain ⟨k0, k1, -⟩ := hk
        have e0 := k0
        have e1 : (fun L v w' => L 9 = true ∧ ∃ r, v = .agg #[.int .u8 (k8.toNat : Int), r] ∧ Own w' w1.heap.size 5 r (vall n ++ text)) L (ρ (.tmp 17)) w' := k1
        clear k0 k1
        refine Par.val_k fun K hK => ?_
        unfold Par.val
        (obtain ⟨h9, r9, hr9, ho9⟩ := e1; refine Par.val_call Tryz.func81 (by kernel_rfl) rfl e0 ?_; simp only [List.map_toArray, List.map_cons, List.map_nil, hr9]; have hcall := rbytes_any ⟨k8, vall n ++ text⟩ r9 w' ho9.byt; rw [HFR.out] at hcall; refine hcall.mono ?_; rintro e w2 ⟨r, rfl, hr, hx2⟩; exact ⟨_, rfl, hK _ _ ⟨ParB.XI_other (i0 := 9) (i := 11) (by decide) hx2, by simp [ParB.upd, h9], r, rfl, hr.mono hX.size⟩⟩)
      refine ⟨⟨fun _ _ _ => trivial, fun L ρ w' hX hL hG hk => ?_⟩, ?_⟩
      · obtain ⟨k0, -⟩ := hk
        have e0 : (fun L v w' => L 9 = true ∧ ∃ r, v = .tuple #[r, .int .i64 0] ∧ Own w' w1.heap.size 5 r FB) L (ρ (.tmp 18)) w' := k0
        clear k0
        refine Par.val_k fun K hK => ?_
        unfold Par.val
        (obtain ⟨h9, r9, hr9, ho9⟩ := e0; go_simp; exact hK _ _ ⟨ParB.XI_refl _ _ 12 _, by simp [ParB.upd, h9], ho9⟩)
      refine ⟨⟨fun _ _ _ => trivial, fun L ρ w' hX hL hG hk => ?_⟩, ?_⟩
      · obtain ⟨k0, -⟩ := hk
        have e0 : (fun L v w' => L 9 = true ∧ ∃ r, v = .tuple #[r, .int .i64 0] ∧ Own w' w1.heap.size 5 r FB) L (ρ (.tmp 18)) w' := k0
        clear k0
        refine Par.val_k fun K hK => ?_
        unfold Par.val
        (obtain ⟨h9, r9, hr9, ho9⟩ := e0; go_simp; exact hK _ _ ⟨ParB.XI_refl _ _ 13 _, by simp [ParB.upd, h9], rfl⟩)
      refine ⟨⟨fun _ _ _ => trivial, fun L ρ w' hX hL hG hk => ?_⟩, ?_⟩
      · exact Par.val_of_run rfl ⟨ParB.XI_refl _ _ 14 _, hk.1⟩
      refine ⟨⟨fun _ _ _ => trivial, fun L ρ w' hX hL hG hk => ?_⟩, ?_⟩
      · exact Par.val_of_run rfl ⟨ParB.XI_refl _ _ 15 _, hk.1⟩
      trivial
    intro a' w' inv
    have hX := inv.ext
    have q7 : a'.tmps.getD 7 undef = Value.pointer (some ⟨w.heap.size, 0, none⟩) := inv.done 0 _ 7 rfl rfl rfl
    have q8 : a'.tmps.getD 8 undef = Value.int IntKind.i64 kind := inv.done 1 _ 8 rfl rfl rfl
    have q9 : a'.tmps.getD 9 undef = Value.int IntKind.u8 (k8.toNat : Int) := inv.done 2 _ 9 rfl rfl rfl
    have q10 : a'.tmps.getD 10 undef = Value.pointer (some ⟨w.heap.size, 1, none⟩) := inv.done 3 _ 10 rfl rfl rfl
    have q11 : a'.tmps.getD 11 undef = Value.slice ao n.length cap := inv.done 4 _ 11 rfl rfl rfl
    have q12 : (fun L v w' => L 9 = true ∨ Own w' w1.heap.size 5 v (vall n)) (ParB.Lof (Array.replicate 16 true)) (a'.tmps.getD 12 undef) w' := inv.done 5 _ 12 rfl rfl rfl
    have q13 : a'.tmps.getD 13 undef = Value.pointer (some ⟨w.heap.size, 2, none⟩) := inv.done 6 _ 13 rfl rfl rfl
    have q14 : a'.tmps.getD 14 undef = Value.string (str text) := inv.done 7 _ 14 rfl rfl rfl
    have q15 : (fun L v w' => L 9 = true ∨ Byt w' v text) (ParB.Lof (Array.replicate 16 true)) (a'.tmps.getD 15 undef) w' := inv.done 8 _ 15 rfl rfl rfl
    have q16 : (fun L v w' => L 9 = true ∧ Own w' w1.heap.size 5 v (vall n ++ text)) (ParB.Lof (Array.replicate 16 true)) (a'.tmps.getD 16 undef) w' := inv.done 9 _ 16 rfl rfl rfl
    have q17 : (fun L v w' => L 9 = true ∧ ∃ r, v = .agg #[.int .u8 (k8.toNat : Int), r] ∧ Own w' w1.heap.size 5 r (vall n ++ text)) (ParB.Lof (Array.replicate 16 true)) (a'.tmps.getD 17 undef) w' := inv.done 10 _ 17 rfl rfl rfl
    have q18 : (fun L v w' => L 9 = true ∧ ∃ r, v = .tuple #[r, .int .i64 0] ∧ Own w' w1.heap.size 5 r FB) (ParB.Lof (Array.replicate 16 true)) (a'.tmps.getD 18 undef) w' := inv.done 11 _ 18 rfl rfl rfl
    have q19 : (fun L v w' => L 9 = true ∧ Own w' w1.heap.size 5 v FB) (ParB.Lof (Array.replicate 16 true)) (a'.tmps.getD 19 undef) w' := inv.done 12 _ 19 rfl rfl rfl
    have q20 : (fun L v w' => L 9 = true ∧ v = .int .i64 0) (ParB.Lof (Array.replicate 16 true)) (a'.tmps.getD 20 undef) w' := inv.done 13 _ 20 rfl rfl rfl
    have q2 : (fun L v w' => L 9 = true ∧ Own w' w1.heap.size 5 v FB) (ParB.Lof (Array.replicate 16 true)) (a'.tmps.getD 2 undef) w' := inv.done 14 _ 2 rfl rfl rfl
    have q3 : (fun L v w' => L 9 = true ∧ v = .int .i64 0) (ParB.Lof (Array.replicate 16 true)) (a'.tmps.getD 3 undef) w' := inv.done 15 _ 3 rfl rfl rfl
    clear inv
    simp only [List.filterMap_cons, List.filterMap_nil, Par.putAll, Act.put, List.setIfInBounds_toArray, List.set_cons_succ, List.set_cons_zero, q7, q8, q9, q10, q11, q13, q14]
    clear q7 q8 q9 q10 q11 q13 q14
    generalize a'.tmps.getD 12 undef = u12 at *
    generalize a'.tmps.getD 15 undef = u15 at *
    generalize a'.tmps.getD 16 undef = u16 at *
    generalize a'.tmps.getD 17 undef = u17 at *
    generalize a'.tmps.getD 18 undef = u18 at *
    generalize a'.tmps.getD 19 undef = u19 at *
    generalize a'.tmps.getD 20 undef = u20 at *
    generalize a'.tmps.getD 2 undef = u2 at *
    generalize a'.tmps.getD 3 undef = u3 at *
    clear a'
    go_wp2
    go_ret2
    obtain ⟨-, rfl⟩ := q3
    rw [HR.out, HFB.out]
    exact ⟨_, rfl, q2.2.mono HE1.out.size, HE1.out.trans hX⟩
end Go.Proofs.YtijpokajhjhllaaGreatDoor

