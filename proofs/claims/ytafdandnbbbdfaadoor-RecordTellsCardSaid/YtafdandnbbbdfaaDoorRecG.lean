/- The document's records: Read. -/
import Derived.Test.YtafdandnbbbdfaaDoorRecE
import Derived.Test.YtafdandnbbbdfaaDoorRecC
namespace Go.Proofs.YtafdandnbbbdfaaDoor
open Go.RowKit Go.Tum Go.Tum.Crc Go.Tum.Vint

theorem rread5_results (tmps : Array Value) (w : World) (B : Nat) (p q s : Value) (h2 : tmps.getD 2 undef = .pointer (some ⟨B, 0, none⟩)) (m0 : w.cell? ⟨B, 0, none⟩ = some p) (m1 : w.cell? ⟨B, 1, none⟩ = some q) (m2 : w.cell? ⟨B, 2, none⟩ = some s) :
    (results Tryd.f12 tmps).run Tryd.prog w = .ok (.tuple #[.agg #[p, q, s], tmps.getD 3 undef]) w := by
  have h2' : tmps[2]?.getD undef = .pointer (some ⟨B, 0, none⟩) := by simpa using h2
  simp [results, Tryd.results12, go_sem, h2', m0, m1, m2]

theorem blk2f {w : World} {b : Nat} {p q : Value} {ty : TypeId} (h : w.heap[b]? = some (.cells #[p, q] ty (0, 0))) :
    w.cell? ⟨b, 0, none⟩ = some p ∧ w.cell? ⟨b, 1, none⟩ = some q := ⟨(blk2 h).1, (blk2 h).2.1⟩
theorem rmany_no {k : Int} (h : knownB k = false) : rmany k = -1 := by unfold rmany; rw [h]; rfl
theorem rmany_yes {k : Int} {m : Nat} (h : knownB k = true) (hm : many k = m) : rmany k = (m : Int) := by unfold rmany; rw [h, hm]; rfl

set_option maxRecDepth 100000 in
set_option maxHeartbeats 1000000 in
theorem rread5_any (x : Fr) (v : Value) (w : World) (hb : Byt w v x.body) :
    Calls Tryd.prog 12 #[fv x v] w (ReadR5 60 w x) := by
  obtain ⟨ao, cap, rfl, hbc1, hbc2, hbn, -⟩ := hb.open
  obtain ⟨kind, body⟩ := x
  replace hbc1 : body.length ≤ cap := hbc1
  replace hb : Byt w (.slice ao body.length cap) body := hb
  have HB := hid hb
  clear hb hbn
  have hbl : body.length ≤ 9223372036854775807 := by omega
  obtain ⟨KB, hKB⟩ : ∃ KB, knownB (kind.toNat : Int) = KB := ⟨_, rfl⟩
  have HKB := hid hKB
  clear hKB
  have hkl := kind.toNat_lt
  have hwk : wrap64 (kind.toNat : Int) = (kind.toNat : Int) := IntWalk.wrap64_in _ ⟨by omega, by omega⟩
  have hB1 : ((w.alloc (.cells #[.int .u8 (kind.toNat : Int), .slice ao body.length cap] 39)).alloc (.cells #[.int .i64 0, .slice none 0 0, .string ⟨#[]⟩] 30)).heap[w.heap.size + 1]? = some (.cells #[.int .i64 0, .slice none 0 0, .string ⟨#[]⟩] 30 (0, 0)) := by
    have := heap_alloc_new (w.alloc (.cells #[.int .u8 (kind.toNat : Int), .slice ao body.length cap] 39)) (.cells #[.int .i64 0, .slice none 0 0, .string ⟨#[]⟩] 30)
    simpa using this
  go_enter Tryd.func12, Tryd.ntmps12
  go_wp2_with fail
  have hE1 := Ext.alloc w (.cells #[.int .u8 (kind.toNat : Int), .slice ao body.length cap] 39)
  have hB0 := heap_alloc_new w (.cells #[.int .u8 (kind.toNat : Int), .slice ao body.length cap] 39)
  have hS1 : (w.alloc (.cells #[.int .u8 (kind.toNat : Int), .slice ao body.length cap] 39)).heap.size = w.heap.size + 1 := by simp
  generalize w.alloc (.cells #[.int .u8 (kind.toNat : Int), .slice ao body.length cap] 39) = W1 at *
  have hE2 := Ext.alloc W1 (.cells #[.int .i64 0, .slice none 0 0, .string ⟨#[]⟩] 30)
  have hS2 : (W1.alloc (.cells #[.int .i64 0, .slice none 0 0, .string ⟨#[]⟩] 30)).heap.size = w.heap.size + 1 + 1 := by simp [hS1]
  generalize W1.alloc (.cells #[.int .i64 0, .slice none 0 0, .string ⟨#[]⟩] 30) = W2 at *
  replace hB0 := hE2.obj hB0
  refine (rmany_any (kind.toNat : Int) _).mono ?_
  rintro e W3 ⟨rfl, hw⟩
  have HE := hid (hE1.trans (hE2.trans hw))
  have hsz3 : w.heap.size + 2 ≤ W3.heap.size := by have := hw.size; omega
  replace hB0 := hw.obj hB0
  replace hB1 := hw.obj hB1
  clear hE1 hE2 hS1 hS2 hw
  cases KB with
  | false =>
    rw [rmany_no HKB.out]
    have HR := hid (recRead_none (b := body) HKB.out)
    obtain ⟨k0, k1, k2, k3, k4, k5⟩ := blk3f hB1
    have hB1' := Go.Joins.block_setCell (i := 2) (Go.Joins.block_setCell (i := 1) (Go.Joins.block_setCell (i := 0) hB1 (.int .i64 0)) (.slice none 0 0)) (.string ⟨#[]⟩)
    clear hB1 hB0
    go_wp2
    obtain ⟨m0, m1, m2, -⟩ := blk3f hB1'
    refine bodyPost_ret (rread5_results _ _ _ _ _ _ rfl m0 m1 m2) rfl ?_
    unfold ReadR5
    rw [HR.out]
    have hE := HE.out
    exact ⟨.slice none 0 0, rfl, World.ownsRow_nil _ _ _ _, by (repeat' (first | (with_reducible exact Below.refl _ _) | (with_reducible assumption) | (with_reducible refine Below.alloc ?_ ?_ _) | (with_reducible refine Below.drew ?_) | (with_reducible refine Below.setCell ?_ ?_ _) | (refine Go.Tum.Ext.trans ?_ (by with_reducible assumption)) | go_size))⟩
  | true =>
    have HR := hid (recRead_some (b := body) HKB.out)
    obtain ⟨m, hmm⟩ : ∃ m, many (kind.toNat : Int) = m := ⟨_, rfl⟩
    have hm10 : m ≤ 10 := by rw [← hmm]; exact many_le _
    rw [rmany_yes HKB.out hmm]
    have HMM := hid hmm
    clear hmm
    have hmd : decide ((m : Int) < 0) = false := by simp
    obtain ⟨j0, j1⟩ := blk2f hB0
    have hE3 := Ext.alloc W3 (.cells #[.int .i64 (kind.toNat : Int), .slice none 0 0, .string ⟨#[]⟩] 30)
    have HS4 := hid (show (W3.alloc (.cells #[.int .i64 (kind.toNat : Int), .slice none 0 0, .string ⟨#[]⟩] 30)).heap.size = W3.heap.size + 1 by simp)
    have HB2 := hid (heap_alloc_new W3 (.cells #[.int .i64 (kind.toNat : Int), .slice none 0 0, .string ⟨#[]⟩] 30))
    have HB0 := hid (hE3.obj hB0)
    have HB1 := hid (hE3.obj hB1)
    have HE4 := hid (HE.out.trans hE3)
    clear hB0 hB1 hE3
    go_wp2
    clear j0 j1 hmd
    generalize W3.alloc (.cells #[.int .i64 (kind.toNat : Int), .slice none 0 0, .string ⟨#[]⟩] 30) = W4 at *
    obtain ⟨c, hc⟩ : ∃ c, W3.heap.size = c := ⟨_, rfl⟩
    rw [hc] at HB2 HS4 hsz3 ⊢
    clear hc HE
    go_loopw [6, 7] (fun ai i wr => ∃ (k at_ : Nat) (acc : List UInt64) (bo : Option Addr) (bc : Nat), k ≤ m ∧ i = .int .i64 k ∧ ai = .int .i64 at_ ∧ at_ ≤ body.length ∧ Hid (acc.length = k) ∧ Hid (GR m k body acc (body.drop at_)) ∧ Hid (OwV uv wr (c + 1) 60 (.slice bo k bc) acc) ∧
      Hid (wr.heap[w.heap.size]? = some (.cells #[.int .u8 (kind.toNat : Int), .slice ao body.length cap] 39 (0, 0))) ∧
      Hid (wr.heap[w.heap.size + 1]? = some (.cells #[.int .i64 0, .slice none 0 0, .string ⟨#[]⟩] 30 (0, 0))) ∧ Hid (wr.heap[c]? = some (.cells #[.int .i64 (kind.toNat : Int), .slice bo k bc, .string ⟨#[]⟩] 30 (0, 0))) ∧ Hid (Ext w wr) ∧ Hid (c + 1 ≤ wr.heap.size)) (fun _ i _ => m - (intOf i).toNat)
    case atStart =>
      exact ⟨0, 0, [], none, 0, by omega, rfl, rfl, by omega, rfl, GR.start _ _, World.ownsRow_nil _ _ _ _, HB0, HB1, HB2, HE4, by show _ ≤ _; have := HS4.out; omega⟩
    case round =>
      obtain ⟨k, at_, acc, bo, bc, hk, rfl, rfl, hat, HA, HG, HO, HB0, HB1, HB2, HE, HSZ⟩ := hrel
      obtain ⟨j0, j1⟩ := blk2f HB0.out
      obtain ⟨i0, i1, i2, i3, i4, i5⟩ := blk3f HB1.out
      obtain ⟨k0, k1, k2, k3, k4, k5⟩ := blk3f HB2.out
      have hsz0 : c + 1 ≤ wr.heap.size := HSZ.out
      have HDR := hid fun ao' hao kk cc hk hc => Vec.drop (f := bv) HB.out at_ hat ao' hao kk cc hk hc
      have hIat : (at_ : Int) ≤ body.length := by omega
      by_cases hlt : k < m
      · obtain ⟨n, u, e, hv⟩ : ∃ n u e, vget (body.drop at_) = (n, u, e) := ⟨_, _, _, rfl⟩
        have HV := hid hv
        clear hv
        by_cases hca : cap = at_
        · subst hca
          go_wp2_with fail
          refine (rget_any _ (body.drop cap) _ ((HDR.out ao (by simp) 0 0 (by omega) (by omega)).ext HE.out)).mono ?_
          rintro e w1 ⟨rfl, rfl⟩
          rw [HV.out]
          by_cases he : e = 0
          · subst he
            have hok := vget_ok HV.out
            have hus := vget_used HV.out
            have hn := hok.1
            have hul : cap + u ≤ body.length := by have := hus.2; rw [List.length_drop] at this; omega
            have hstep := HG.out.step hlt (by rw [HV.out])
            rw [HV.out] at hstep
            simp only [List.drop_drop] at hstep
            have HS := hid hstep
            clear hok hus hstep
            have hE1 := Ext.alloc wr (.cells #[.int .u64 (n : Int)] 60)
            have hS1 : wr.heap.size + 1 = (wr.alloc (.cells #[.int .u64 (n : Int)] 60)).heap.size := by simp
            have hV1 := Vec.one (f := uv) wr 60 (.int .u64 (n : Int)) (UInt64.ofNat n) (by simp [uv]; omega)
            have HO1 := hid (HO.out.ext hE1)
            have HE1 := hid (HE.out.trans hE1)
            have HB3 := hid (hE1.obj HB0.out)
            have HB4 := hid (hE1.obj HB1.out)
            have HB5 := hid (hE1.obj HB2.out)
            have HV1 := hid hV1
            clear hE1 hV1 i0 i1 i2 i3 i4 i5
            go_wp2_with (at_builtin; refine wpList_append_vec uv_one rfl (.tmp 41) (.tmp 43) 22 rfl (c + 1) 60 Tryd.underlying22 info64 rfl rfl HO1.out rfl HV1.out (k + 1) (by rw [HA.out]; rfl) (by omega) (by omega) (by omega) ?_; intro ao2 cap2 w2 hown2 hg2 hb2; obtain ⟨p0, p1, p2, p3, p4, p5⟩ := blk3f (below_obj hb2 (by omega) HB5.out); obtain ⟨HOW, HBE⟩ := And.intro (hid hown2) (hid hb2); clear hown2 hg2 hb2)
            go_roundw
            case rel =>
              have hb0 := below_obj HBE.out (by omega) HB3.out
              have hb1 := below_obj HBE.out (by omega) HB4.out
              have hb2 := Go.Joins.block_setCell (i := 1) (below_obj HBE.out (by omega) HB5.out) (.slice ao2 (k + 1) cap2)
              have hE := Below.trans HE1.out (HBE.out.mono (by omega))
              have hsz2 := HBE.out.size
              refine ⟨k + 1, cap + u, acc ++ [UInt64.ofNat n], ao2, cap2, by omega, by go_num, by go_num, by omega, hid (by simp [HA.out]), HS, owv_setLow HOW.out _ _ (by dsimp only; omega), hid ?_, hid ?_, hid hb2, Below.setCell hE (by dsimp only; omega) _, hid (by simp; omega)⟩
              · rw [heap_setCell_other _ _ _ _ (by dsimp only; omega)]; exact hb0
              · rw [heap_setCell_other _ _ _ _ (by dsimp only; omega)]; exact hb1
            case measure => simp [intOf]; omega
          · have hne : ((e : Int) != 0) = true := by rw [bne_iff_ne]; omega
            have hg := HG.out.err hlt (by rw [HV.out]; exact he)
            rw [HV.out, ← HMM.out] at hg
            have hR := HR.out
            rw [hg, if_pos he] at hR
            have HR2 := hid hR
            clear hg hR
            have hB1' := Go.Joins.block_setCell (i := 2) (Go.Joins.block_setCell (i := 1) (Go.Joins.block_setCell (i := 0) HB1.out (.int .i64 0)) (.slice none 0 0)) (.string ⟨#[]⟩)
            go_wp2
            obtain ⟨m0, m1, m2, -⟩ := blk3f hB1'
            refine bodyPost_ret (rread5_results _ _ _ _ _ _ rfl m0 m1 m2) rfl ?_
            unfold ReadR5
            rw [HR2.out]
            have hE := HE.out
            exact ⟨.slice none 0 0, rfl, World.ownsRow_nil _ _ _ _, by (repeat' (first | (with_reducible exact Below.refl _ _) | (with_reducible assumption) | (with_reducible refine Below.alloc ?_ ?_ _) | (with_reducible refine Below.drew ?_) | (with_reducible refine Below.setCell ?_ ?_ _) | (refine Go.Tum.Ext.trans ?_ (by with_reducible assumption)) | go_size))⟩
        · go_wp2_with fail
          refine (rget_any _ (body.drop at_) _ ((HDR.out (ao.map fun x => x.add at_) (by rw [if_neg hca]) (body.length - at_) (cap - at_) rfl rfl).ext HE.out)).mono ?_
          rintro e w1 ⟨rfl, rfl⟩
          rw [HV.out]
          by_cases he : e = 0
          · subst he
            have hok := vget_ok HV.out
            have hus := vget_used HV.out
            have hn := hok.1
            have hul : at_ + u ≤ body.length := by have := hus.2; rw [List.length_drop] at this; omega
            have hstep := HG.out.step hlt (by rw [HV.out])
            rw [HV.out] at hstep
            simp only [List.drop_drop] at hstep
            have HS := hid hstep
            clear hok hus hstep
            have hE1 := Ext.alloc wr (.cells #[.int .u64 (n : Int)] 60)
            have hS1 : wr.heap.size + 1 = (wr.alloc (.cells #[.int .u64 (n : Int)] 60)).heap.size := by simp
            have hV1 := Vec.one (f := uv) wr 60 (.int .u64 (n : Int)) (UInt64.ofNat n) (by simp [uv]; omega)
            have HO1 := hid (HO.out.ext hE1)
            have HE1 := hid (HE.out.trans hE1)
            have HB3 := hid (hE1.obj HB0.out)
            have HB4 := hid (hE1.obj HB1.out)
            have HB5 := hid (hE1.obj HB2.out)
            have HV1 := hid hV1
            clear hE1 hV1 i0 i1 i2 i3 i4 i5
            go_wp2_with (at_builtin; refine wpList_append_vec uv_one rfl (.tmp 41) (.tmp 43) 22 rfl (c + 1) 60 Tryd.underlying22 info64 rfl rfl HO1.out rfl HV1.out (k + 1) (by rw [HA.out]; rfl) (by omega) (by omega) (by omega) ?_; intro ao2 cap2 w2 hown2 hg2 hb2; obtain ⟨p0, p1, p2, p3, p4, p5⟩ := blk3f (below_obj hb2 (by omega) HB5.out); obtain ⟨HOW, HBE⟩ := And.intro (hid hown2) (hid hb2); clear hown2 hg2 hb2)
            go_roundw
            case rel =>
              have hb0 := below_obj HBE.out (by omega) HB3.out
              have hb1 := below_obj HBE.out (by omega) HB4.out
              have hb2 := Go.Joins.block_setCell (i := 1) (below_obj HBE.out (by omega) HB5.out) (.slice ao2 (k + 1) cap2)
              have hE := Below.trans HE1.out (HBE.out.mono (by omega))
              have hsz2 := HBE.out.size
              refine ⟨k + 1, at_ + u, acc ++ [UInt64.ofNat n], ao2, cap2, by omega, by go_num, by go_num, by omega, hid (by simp [HA.out]), HS, owv_setLow HOW.out _ _ (by dsimp only; omega), hid ?_, hid ?_, hid hb2, Below.setCell hE (by dsimp only; omega) _, hid (by simp; omega)⟩
              · rw [heap_setCell_other _ _ _ _ (by dsimp only; omega)]; exact hb0
              · rw [heap_setCell_other _ _ _ _ (by dsimp only; omega)]; exact hb1
            case measure => simp [intOf]; omega
          · have hne : ((e : Int) != 0) = true := by rw [bne_iff_ne]; omega
            have hg := HG.out.err hlt (by rw [HV.out]; exact he)
            rw [HV.out, ← HMM.out] at hg
            have hR := HR.out
            rw [hg, if_pos he] at hR
            have HR2 := hid hR
            clear hg hR
            have hB1' := Go.Joins.block_setCell (i := 2) (Go.Joins.block_setCell (i := 1) (Go.Joins.block_setCell (i := 0) HB1.out (.int .i64 0)) (.slice none 0 0)) (.string ⟨#[]⟩)
            go_wp2
            obtain ⟨m0, m1, m2, -⟩ := blk3f hB1'
            refine bodyPost_ret (rread5_results _ _ _ _ _ _ rfl m0 m1 m2) rfl ?_
            unfold ReadR5
            rw [HR2.out]
            have hE := HE.out
            exact ⟨.slice none 0 0, rfl, World.ownsRow_nil _ _ _ _, by (repeat' (first | (with_reducible exact Below.refl _ _) | (with_reducible assumption) | (with_reducible refine Below.alloc ?_ ?_ _) | (with_reducible refine Below.drew ?_) | (with_reducible refine Below.setCell ?_ ?_ _) | (refine Go.Tum.Ext.trans ?_ (by with_reducible assumption)) | go_size))⟩
      · obtain rfl : k = m := by omega
        have hg := HG.out.fin
        rw [HMM.out] at HR
        have hR := HR.out
        rw [hg] at hR
        have hll : (body.drop at_).length = body.length - at_ := List.length_drop
        obtain ⟨TB, hTB⟩ : ∃ TB, textB (kind.toNat : Int) (body.length - at_) = TB := ⟨_, rfl⟩
        simp only [hll, hTB, ne_eq, not_true_eq_false, if_false] at hR
        have HTB := hid hTB
        have HR2 := hid hR
        have hsub : (body.length : Int) - (at_ : Int) = ((body.length - at_ : Nat) : Int) := by omega
        have HSUB := hid hsub
        clear hg hR hTB hll hsub
        go_wp2_with fail
        rw [HSUB.out]
        refine (rtexts_any (kind.toNat : Int) (body.length - at_) _).mono ?_
        rintro e w1 ⟨rfl, rfl⟩
        rw [HTB.out]
        cases TB with
        | false =>
          have hB1' := Go.Joins.block_setCell (i := 2) (Go.Joins.block_setCell (i := 1) (Go.Joins.block_setCell (i := 0) HB1.out (.int .i64 0)) (.slice none 0 0)) (.string ⟨#[]⟩)
          go_wp2
          obtain ⟨m0, m1, m2, -⟩ := blk3f hB1'
          refine bodyPost_ret (rread5_results _ _ _ _ _ _ rfl m0 m1 m2) rfl ?_
          unfold ReadR5
          rw [HR2.out]
          have hE := HE.out
          exact ⟨.slice none 0 0, rfl, World.ownsRow_nil _ _ _ _, by (repeat' (first | (with_reducible exact Below.refl _ _) | (with_reducible assumption) | (with_reducible refine Below.alloc ?_ ?_ _) | (with_reducible refine Below.drew ?_) | (with_reducible refine Below.setCell ?_ ?_ _) | (refine Go.Tum.Ext.trans ?_ (by with_reducible assumption)) | go_size))⟩
        | true =>
          by_cases hca : cap = at_
          · subst hca
            have e1 := run_string_byt (P := Tryd.prog) ((HDR.out ao (by simp) 0 0 (by omega) (by omega)).ext HE.out) 25 9 5 Tryd.underlying25 Tryd.underlying5 Tryd.underlying9
            go_wp2
            have hb1 : (wr.setCell ⟨c, 2, none⟩ (.string (str (body.drop cap)))).heap[w.heap.size + 1]? = some (.cells #[.int .i64 0, .slice none 0 0, .string ⟨#[]⟩] 30 (0, 0)) := by
              rw [heap_setCell_other _ _ _ _ (by dsimp only; omega)]; exact HB1.out
            have hB1' := Go.Joins.block_setCell (i := 2) (Go.Joins.block_setCell (i := 1) (Go.Joins.block_setCell (i := 0) hb1 (.int .i64 (kind.toNat : Int))) (.slice bo k bc)) (.string (str (body.drop cap)))
            obtain ⟨m0, m1, m2, -⟩ := blk3f hB1'
            refine bodyPost_ret (rread5_results _ _ _ _ _ _ rfl m0 m1 m2) rfl ?_
            unfold ReadR5
            rw [HR2.out]
            have hE := HE.out
            refine ⟨.slice bo k bc, rfl, ?_, by (repeat' (first | (with_reducible exact Below.refl _ _) | (with_reducible assumption) | (with_reducible refine Below.alloc ?_ ?_ _) | (with_reducible refine Below.drew ?_) | (with_reducible refine Below.setCell ?_ ?_ _) | (refine Go.Tum.Ext.trans ?_ (by with_reducible assumption)) | go_size))⟩
            exact OwV.mono (owv_setLow (owv_setLow (owv_setLow (owv_setLow HO.out _ _ (by dsimp only; omega)) _ _ (by dsimp only; omega)) _ _ (by dsimp only; omega)) _ _ (by dsimp only; omega)) (by omega)
          · have e1 := run_string_byt (P := Tryd.prog) ((HDR.out (ao.map fun x => x.add at_) (by rw [if_neg hca]) (body.length - at_) (cap - at_) rfl rfl).ext HE.out) 25 9 5 Tryd.underlying25 Tryd.underlying5 Tryd.underlying9
            go_wp2
            have hb1 : (wr.setCell ⟨c, 2, none⟩ (.string (str (body.drop at_)))).heap[w.heap.size + 1]? = some (.cells #[.int .i64 0, .slice none 0 0, .string ⟨#[]⟩] 30 (0, 0)) := by
              rw [heap_setCell_other _ _ _ _ (by dsimp only; omega)]; exact HB1.out
            have hB1' := Go.Joins.block_setCell (i := 2) (Go.Joins.block_setCell (i := 1) (Go.Joins.block_setCell (i := 0) hb1 (.int .i64 (kind.toNat : Int))) (.slice bo k bc)) (.string (str (body.drop at_)))
            obtain ⟨m0, m1, m2, -⟩ := blk3f hB1'
            refine bodyPost_ret (rread5_results _ _ _ _ _ _ rfl m0 m1 m2) rfl ?_
            unfold ReadR5
            rw [HR2.out]
            have hE := HE.out
            refine ⟨.slice bo k bc, rfl, ?_, by (repeat' (first | (with_reducible exact Below.refl _ _) | (with_reducible assumption) | (with_reducible refine Below.alloc ?_ ?_ _) | (with_reducible refine Below.drew ?_) | (with_reducible refine Below.setCell ?_ ?_ _) | (refine Go.Tum.Ext.trans ?_ (by with_reducible assumption)) | go_size))⟩
            exact OwV.mono (owv_setLow (owv_setLow (owv_setLow (owv_setLow HO.out _ _ (by dsimp only; omega)) _ _ (by dsimp only; omega)) _ _ (by dsimp only; omega)) _ _ (by dsimp only; omega)) (by omega)
end Go.Proofs.YtafdandnbbbdfaaDoor
