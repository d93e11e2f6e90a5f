/- RecordTorn. -/
import Derived.Test.YtafdandnbbbdfaaDoorLaw05
import Derived.Test.YtafdandnbbbdfaaDoorRecT
namespace Go.Proofs.YtafdandnbbbdfaaDoor
open Go.RowKit Go.Tum Go.Tum.Crc Go.Tum.Vint

set_option maxRecDepth 100000 in
set_option maxHeartbeats 1000000 in
theorem recordTorn_law (v : Value) (l : List Rc) (cut : Int) (w : World) (hb : Rcs w v l) (hcut1 : -9223372036854775808 ≤ cut) (hcut2 : cut ≤ 9223372036854775807) (ht : Tab w) :
    Calls Tryd.prog 6 #[v, .int .i64 cut] w fun e w' => e = .returned (.bool true) ∧ Ext w w' := by
  obtain ⟨q, hq, hr, hB⟩ := hb
  obtain ⟨ao, cap, rfl, hc1, hc2, hc3, hcell⟩ := hr.open
  have hql : q.length = l.length := by rw [← hq]; simp
  rw [hql] at hc1 ⊢
  have HQ := hid hq
  have HQL := hid hql
  have HC3 := hid hc3
  have HC := hid hcell
  have HB := hid hB
  have HT := hid ht
  clear hr hcell hB hc3 hq hql ht
  by_cases h1 : 6 < l.length
  · have hd : decide (6 < (l.length : Int)) = true := by simp; omega
    go_enter Tryd.func6, Tryd.ntmps6
    go_wp2_with fail
    refine (awake_any _ HT.out).mono ?_
    rintro e w1 ⟨rfl, hw1⟩
    go_wp2
    go_ret
    exact ⟨rfl, hw1⟩
  have hd : decide (6 < (l.length : Int)) = false := by simp; omega
  go_enter Tryd.func6, Tryd.ntmps6
  go_wp2_with fail
  refine (awake_any _ HT.out).mono ?_
  rintro e w1 ⟨rfl, hw1⟩
  have HW1 := hid hw1
  clear hw1
  go_wp2
  clear hd
  go_loopw [5, 6, 24] (fun bo wh i wr => ∃ (k N W : Nat) (b1 : Option Addr) (bc : Nat), k ≤ l.length ∧ i = .int .i64 k ∧ bo = .slice b1 N bc ∧ wh = .int .i64 W ∧ N ≤ 411 * k ∧ W ≤ k ∧
      Hid (N = (fcat ((l.take k).map recFr)).length) ∧ Hid (Own wr w.heap.size 5 (.slice b1 N bc) (fcat ((l.take k).map recFr))) ∧ Hid (W = wcount cut (fends 0 ((l.take k).map recFr))) ∧ Hid (∀ x ∈ l.take k, rightB x = true) ∧ Hid (Ext w wr)) (fun _ _ i _ => l.length - (intOf i).toNat)
  case atStart => exact ⟨0, 0, 0, none, 0, by omega, rfl, rfl, rfl, by omega, by omega, hid (by simp [fcat]), hid (by simpa [fcat] using Own.nil _ _ _), hid (by simp [fends, wcount]), hid (by simp), HW1.out⟩
  case round =>
    obtain ⟨k, N, W, b1, bc, hk, rfl, rfl, rfl, hNk, hWk, HN, HO, HW, HF, HE⟩ := hrel
    by_cases hlt : k < l.length
    · have hkq : k < q.length := by rw [HQL.out]; exact hlt
      obtain ⟨a, rfl⟩ := HC3.out (by omega)
      have hbody := HB.out _ (List.getElem_mem hkq)
      have hx : q[k].1 = l[k] := by
        have h1 : (q.map (·.1))[k]? = l[k]? := by rw [HQ.out]
        rw [List.getElem?_map, List.getElem?_eq_getElem hkq, List.getElem?_eq_getElem hlt] at h1
        simpa using h1
      have c0 := cell_first (HE.out.cell (HC.out a rfl k hkq 0 _ rfl))
      have c1 := cell_next (HE.out.cell (HC.out a rfl k hkq 1 _ rfl)) (by decide)
      have c2 := cell_next (HE.out.cell (HC.out a rfl k hkq 2 _ rfl)) (by decide)
      rw [hx] at c0 c2 hbody
      have htk : l.take (k + 1) = l.take k ++ [l[k]] := List.take_succ_eq_append_getElem hlt
      obtain ⟨X, hX0⟩ : ∃ X, l[k] = X := ⟨_, rfl⟩
      obtain ⟨U, hU0⟩ : ∃ U, q[k].2 = U := ⟨_, rfl⟩
      rw [hX0] at c0 c2 hbody htk
      rw [hU0] at c1 hbody
      obtain ⟨U1, U3, rfl, -⟩ := hbody.open
      have hcat : fcat ((l.take (k + 1)).map recFr) = fcat ((l.take k).map recFr) ++ fbytes (recFr X) := by rw [htk, List.map_append, List.map_cons, List.map_nil, fcat_snoc]
      have hwc : wcount cut (fends 0 ((l.take (k + 1)).map recFr)) = wcount cut (fends 0 ((l.take k).map recFr)) + (if (((fcat ((l.take k).map recFr)).length + ((recFr X).body.length + 11) : Nat) : Int) ≤ cut then 1 else 0) := by
        rw [htk, List.map_append, List.map_cons, List.map_nil, fends_snoc, wcount_snoc, Nat.zero_add]
      have HCAT := hid hcat
      have HWC := hid hwc
      have HTK := hid htk
      have HBD := hid (hbody.ext HE.out)
      have hN5 : N ≤ 3000 := by omega
      clear hcat hwc htk hbody hX0 hU0 hx
      have hw := Ext.alloc wr (.cells #[.int .i64 X.kind, .slice U1 X.n.length U3, .string (str X.text)] 24)
      go_wp2_with fail
      generalize wr.alloc (.cells #[.int .i64 X.kind, .slice U1 X.n.length U3, .string (str X.text)] 24) = W1 at *
      have HE3 := hid (HE.out.trans hw)
      have HO3 := hid (HO.out.ext hw)
      have HBD3 := hid (HBD.out.ext hw)
      clear hw c0 c1 c2
      refine (bytes5_any X _ _ HBD3.out (HT.out.ext HE3.out)).mono ?_
      rintro e w3 ⟨r, rfl, hr3, hw3⟩
      have HE4 := hid (HE3.out.trans hw3)
      have HO4 := hid (HO3.out.ext hw3)
      clear hw3
      obtain ⟨RB, hRB⟩ : ∃ RB, rightB X = RB := ⟨_, rfl⟩
      cases RB with
      | false =>
        rw [recBytes_bad hRB] at hr3 ⊢
        obtain ⟨ro, rc, rfl, -⟩ := hr3.byt.open
        clear hr3 hRB
        go_wp2
        go_ret
        exact ⟨rfl, HE4.out⟩
      | true =>
        have hfc := fbytes_length (recFr X)
        have hfb := body_le hRB
        rw [recBytes_ok hRB] at hr3 ⊢
        simp only [] at hr3
        obtain ⟨FB, hFB⟩ : ∃ FB, fbytes (recFr X) = FB := ⟨_, rfl⟩
        rw [hFB] at hr3 hfc
        replace HCAT := hid (show fcat ((l.take (k + 1)).map recFr) = fcat ((l.take k).map recFr) ++ FB by rw [HCAT.out, hFB])
        obtain ⟨ro, rc, rfl, -⟩ := hr3.byt.open
        have HP4 := hid hr3.byt
        have HRX := hid hRB
        have hFL : FB.length ≤ 411 := by
          have : (recFr X).body.length ≤ 400 := hfb
          omega
        have HFC := hid hfc
        clear hr3 hRB hfc hfb hFB
        by_cases hcmp : (N : Int) + FB.length ≤ cut
        · have hdc : decide ((N : Int) + (FB.length : Int) ≤ cut) = true := by simpa using hcmp
          have hdd : decide (((N + FB.length : Nat) : Int) ≤ cut) = true := by simp; exact hcmp
          go_wp2_with (first
            | (at_builtin; refine wpList_append_byt rfl (.tmp 44) (.tmp 45) 25 rfl w.heap.size 5 Tryd.underlying25 info8 rfl HO4.out rfl HP4.out (N + FB.length) (by have := HN.out; omega) (by omega) (HE4.out.size) ?_; intro ao5 cap5 w5 hown5 hg5 hb5)
            | fail)
          have hE5 : Ext w w5 := HE4.out.below hb5
          have HO5 := hid hown5
          clear hown5 hg5 hb5
          go_roundw
          case rel => exact ⟨k + 1, N + FB.length, W + 1, ao5, cap5, by omega, by go_num, rfl, by go_num, by omega, by omega, hid (by rw [HCAT.out, List.length_append, ← HN.out]), hid (by rw [HCAT.out]; exact HO5.out), hid (by rw [HWC.out, ← HW.out, if_pos (by rw [← HFC.out, ← HN.out]; omega)]), hid (by
            rw [HTK.out]; intro x hx
            rcases List.mem_append.1 hx with h | h
            · exact HF.out x h
            · simp at h; subst h; exact HRX.out), hE5⟩
          case measure => simp [intOf]; omega
        · have hdc : decide ((N : Int) + (FB.length : Int) ≤ cut) = false := by simpa using hcmp
          have hdd : decide (((N + FB.length : Nat) : Int) ≤ cut) = false := by simp; omega
          go_wp2_with (first
            | (at_builtin; refine wpList_append_byt rfl (.tmp 44) (.tmp 45) 25 rfl w.heap.size 5 Tryd.underlying25 info8 rfl HO4.out rfl HP4.out (N + FB.length) (by have := HN.out; omega) (by omega) (HE4.out.size) ?_; intro ao5 cap5 w5 hown5 hg5 hb5)
            | fail)
          have hE5 : Ext w w5 := HE4.out.below hb5
          have HO5 := hid hown5
          clear hown5 hg5 hb5
          go_roundw
          case rel => exact ⟨k + 1, N + FB.length, W + 0, ao5, cap5, by omega, by go_num, rfl, by go_num, by omega, by omega, hid (by rw [HCAT.out, List.length_append, ← HN.out]), hid (by rw [HCAT.out]; exact HO5.out), hid (by rw [HWC.out, ← HW.out, if_neg (by rw [← HFC.out, ← HN.out]; omega)]), hid (by
            rw [HTK.out]; intro x hx
            rcases List.mem_append.1 hx with h | h
            · exact HF.out x h
            · simp at h; subst h; exact HRX.out), hE5⟩
          case measure => simp [intOf]; omega
    · obtain rfl : k = l.length := by omega
      have hO := HO.out
      have hN := HN.out
      have hW := HW.out
      have hF := HF.out
      rw [List.take_of_length_le (Nat.le_refl _)] at hO hN hW hF
      obtain ⟨B, hB0⟩ : ∃ B, fcat (l.map recFr) = B := ⟨_, rfl⟩
      obtain ⟨c, hc0⟩ : ∃ c, c = (min (max cut 0) (B.length : Int)).toNat := ⟨_, rfl⟩
      obtain ⟨n, at_, er, hn, hw, hrall, hat, hfc2, he, hec, hcB⟩ := rall_torn l hF cut c B hB0 hc0
      rw [hB0] at hO hN
      subst hN
      rw [hw] at hW
      have hWn := hW.symm
      subst hWn
      have HO2 := hid hO
      have HRALL := hid hrall
      have HFC2 := hid hfc2
      have HEC := hid hec
      have hc1' : min (max cut 0) (B.length : Int) = (c : Int) := by omega
      have HCC := hid hc1'
      have hBl : B.length ≤ 3000 := by omega
      clear HO HN HW HF hO hF hw hrall hfc2 hec hB0 hc0 hc1'
      have hBp := Byt.part HO2.out.byt 0 c (by omega) (by have := HO2.out.byt.open; obtain ⟨_, _, e, h, _⟩ := this; cases e; omega) b1 (by split <;> simp [Addr.add])
      simp only [List.drop_zero, Nat.sub_zero] at hBp
      have hbc : B.length ≤ bc := by
        obtain ⟨_, _, e, h, _⟩ := HO2.out.byt.open
        cases e; exact h
      have HBP := hid hBp
      clear hBp
      by_cases hcA : cut < 0
      · have hc0' : c = 0 := by have := HCC.out; omega
        subst hc0'
        have hgc : ∀ E : Nat, E ≤ at_ → ¬ ((0 : Int) < (E : Int)) := by intro E h; omega
        have hBn : ¬ ((B.length : Int) < 0) := by omega
        go_wp2_with fail
        refine (all5_any _ (B.take 0) _ HBP.out (by rw [List.length_take]; omega) (HT.out.ext HE.out)).mono ?_
        rintro e w7 ⟨vl, ul, rfl, hl7, hu7, hw7⟩
        rw [HRALL.out] at hl7 hu7 ⊢
        simp only [] at hl7 hu7
        have hel : (fends 0 ((l.take n).map recFr)).length = n := by rw [fends_length]; simp; omega
        obtain ⟨pm, hpm, hrm, hBm⟩ := hl7.rcs
        obtain ⟨mo, mc, rfl, hm2, hm3, hm4, hm5⟩ := hrm.open
        obtain ⟨uo, uc, rfl, hu2, hu3, hu4, hu5⟩ := hu7.vec.open
        have hpl : pm.length = n := by
          have := congrArg List.length hpm
          simp at this; omega
        rw [hpl] at hm2 ⊢
        rw [hel] at hu2 ⊢
        have HEF := hid (HE.out.trans hw7)
        have HM4 := hid hm4
        have HM5 := hid hm5
        have HU4 := hid hu4
        have HU5 := hid hu5
        have HM1 := hid hpl
        have HEL := hid hel
        have HPM := hid hpm
        have HBM := hid hBm
        clear hl7 hu7 hw7 hrm hm4 hm5 hu4 hu5 hpl hel hpm hBm HRALL HBP HO2
        rcases he with he | he
        · subst he
          go_wp2
          go_loopw [81] (fun i wr => ∃ k3 : Nat, k3 ≤ n ∧ i = .int .i64 k3 ∧ Hid (Ext w7 wr)) (fun i _ => n - (intOf i).toNat)
          case atStart => exact ⟨0, by omega, rfl, Ext.refl _⟩
          case round =>
            obtain ⟨k3, hk3, rfl, HE3⟩ := hrel
            by_cases hlt3 : k3 < n
            · have hkm : k3 < pm.length := by rw [HM1.out]; exact hlt3
              have hkq : k3 < q.length := by rw [HQL.out]; omega
              have hke : k3 < (fends 0 ((l.take n).map recFr)).length := by rw [HEL.out]; exact hlt3
              obtain ⟨p7, rfl⟩ := HM4.out (by omega)
              obtain ⟨p0, rfl⟩ := HC3.out (by omega)
              obtain ⟨pe, rfl⟩ := HU4.out (by omega)
              have hsame : pm[k3].1 = q[k3].1 := by
                have h1 : (pm.map (·.1))[k3]? = ((q.map (·.1)).take n)[k3]? := by rw [HPM.out, HQ.out]
                rw [List.getElem?_take, if_pos hlt3, List.getElem?_map, List.getElem?_map, List.getElem?_eq_getElem hkm, List.getElem?_eq_getElem hkq] at h1
                simpa using h1
              have d0 := cell_first (HE3.out.cell (HM5.out p7 rfl k3 hkm 0 _ rfl))
              have d1 := cell_next (HE3.out.cell (HM5.out p7 rfl k3 hkm 1 _ rfl)) (by decide)
              have d2 := cell_next (HE3.out.cell (HM5.out p7 rfl k3 hkm 2 _ rfl)) (by decide)
              have e0 := cell_first ((HEF.out.trans HE3.out).cell (HC.out p0 rfl k3 hkq 0 _ rfl))
              have e1' := cell_next ((HEF.out.trans HE3.out).cell (HC.out p0 rfl k3 hkq 1 _ rfl)) (by decide)
              have e2' := cell_next ((HEF.out.trans HE3.out).cell (HC.out p0 rfl k3 hkq 2 _ rfl)) (by decide)
              have f0 := HE3.out.cell (HU5.out pe rfl k3 hke)
              have hfle : (fends 0 ((l.take n).map recFr))[k3] ≤ at_ := by
                have := fends_le ((l.take n).map recFr) 0 _ (List.getElem_mem hke)
                rw [Nat.zero_add, HFC2.out] at this; exact this
              obtain ⟨E, hE0⟩ : ∃ E, (fends 0 ((l.take n).map recFr))[k3] = E := ⟨_, rfl⟩
              rw [hE0] at f0 hfle
              have hBq := HBM.out _ (List.getElem_mem hkm)
              have hBc := HB.out _ (List.getElem_mem hkq)
              rw [← hsame] at e0 e2' hBc
              obtain ⟨X, hX0⟩ : ∃ X, pm[k3].1 = X := ⟨_, rfl⟩
              obtain ⟨U, hU0⟩ : ∃ U, q[k3].2 = U := ⟨_, rfl⟩
              obtain ⟨V, hV0⟩ : ∃ V, pm[k3].2 = V := ⟨_, rfl⟩
              rw [hX0] at d0 d2 e0 e2' hBq hBc
              rw [hV0] at d1 hBq
              rw [hU0] at e1' hBc
              obtain ⟨U1, U3, rfl, -⟩ := hBc.open
              obtain ⟨V1, V3, rfl, -⟩ := hBq.open
              have BU := hid (hBc.ext (HEF.out.trans HE3.out))
              have BV := hid (hBq.ext HE3.out)
              have HSB := hid (show recSame X X = true by simp [recSame])
              have hxr := Ext.alloc wr (.cells #[.int .i64 X.kind, .slice V1 X.n.length V3, .string (str X.text)] 24)
              have hY := blk3 (heap_alloc_new wr (.cells #[.int .i64 X.kind, .slice V1 X.n.length V3, .string (str X.text)] 24))
              have E0b := hid (hxr.cell e0)
              have E1b := hid (hxr.cell e1')
              have E2b := hid (hxr.cell e2')
              have F0b := hid (hxr.cell f0)
              have HY := hid hY
              have BUb := hid (BU.out.ext hxr)
              have BVb := hid (BV.out.ext hxr)
              have HEb := hid (HE3.out.trans hxr)
              have hI : (k3 : Int) < (n : Int) := by omega
              have hI1 : (k3 : Int) < (l.length : Int) := by omega
              have hI0 : (0 : Int) ≤ k3 := by omega
              have hgE : decide (0 < E) = false := by simp; omega
              clear hsame hX0 hU0 hV0 hBq hBc e0 e1' e2' f0 BU BV hE0 hxr hY
              go_wp2_with fail
              clear d0 d1 d2
              generalize wr.heap.size = br at *
              generalize wr.alloc (.cells #[.int .i64 X.kind, .slice V1 X.n.length V3, .string (str X.text)] 24) = W9 at *
              refine Par.wp_region_par (l := [_, _, _, _, _, _, _, _, _, _, _, _, _, _, _]) rfl Ext (Par.VL [Par.EQ (rv X (.slice V1 X.n.length V3)), Par.EQ (Value.slice (some p0) l.length cap), Par.EQ (Value.int IntKind.i64 (k3 : Int)), Par.EQ (Value.pointer (some (p0.add (k3 * 3)))), Par.EQ (rv X (.slice U1 X.n.length U3)), Par.EQ (Value.bool true), Par.EQ (Value.bool false), Par.EQ (Value.bool false), Par.EQ (Value.slice (some pe) n uc), Par.EQ (Value.int IntKind.i64 (k3 : Int)), Par.EQ (Value.pointer (some (pe.add k3))), Par.EQ (Value.int IntKind.i64 (E : Int)), Par.EQ (Value.int IntKind.i64 (0 : Int)), Par.EQ (Value.bool false), Par.EQ (Value.bool false)]) (by kernel_rfl) Ext.refl (fun _ _ _ h1 h2 => Ext.trans h1 h2) (Ext.draw _) (Par.VL_stab ?_) ?_ ?_
              · simp only [List.forall_mem_cons, List.not_mem_nil, false_implies, implies_true, and_true]
                refine ⟨fun _ _ _ _ h => h, fun _ _ _ _ h => h, fun _ _ _ _ h => h, fun _ _ _ _ h => h, fun _ _ _ _ h => h, fun _ _ _ _ h => h, fun _ _ _ _ h => h, fun _ _ _ _ h => h, fun _ _ _ _ h => h, fun _ _ _ _ h => h, fun _ _ _ _ h => h, fun _ _ _ _ h => h, fun _ _ _ _ h => h, fun _ _ _ _ h => h, fun _ _ _ _ h => h⟩
              · refine ⟨⟨fun _ _ => trivial, fun ρ w' hX hG hk => ?_⟩, ?_⟩
                · obtain ⟨k0, -⟩ := hk
                  have e0 : ρ (.tmp 15) = Value.pointer (some ⟨br, 0, none⟩) := k0
                  clear k0
                  refine Par.val_k fun K hK => ?_
                  unfold Par.val
                  (have c0 := hX.cell HY.out.1; have c1 := hX.cell HY.out.2.1; have c2 := hX.cell HY.out.2.2; go_simp; exact hK _ _ ⟨Ext.refl _, rfl⟩)
                refine ⟨⟨fun _ _ => trivial, fun ρ w' hX hG hk => ?_⟩, ?_⟩
                · exact Par.val_of_run rfl ⟨Ext.refl _, hk.1⟩
                refine ⟨⟨fun _ _ => trivial, fun ρ w' hX hG hk => ?_⟩, ?_⟩
                · exact Par.val_of_run rfl ⟨Ext.refl _, hk.1⟩
                refine ⟨⟨fun _ _ => trivial, fun ρ w' hX hG hk => ?_⟩, ?_⟩
                · obtain ⟨k0, k1, -⟩ := hk
                  have e0 : ρ (.tmp 87) = Value.slice (some p0) l.length cap := k0
                  have e1 : ρ (.tmp 88) = Value.int IntKind.i64 (k3 : Int) := k1
                  clear k0 k1
                  refine Par.val_k fun K hK => ?_
                  unfold Par.val
                  (go_simp; exact hK _ _ ⟨Ext.refl _, rfl⟩)
                refine ⟨⟨fun _ _ => trivial, fun ρ w' hX hG hk => ?_⟩, ?_⟩
                · obtain ⟨k0, -⟩ := hk
                  have e0 : ρ (.tmp 89) = Value.pointer (some (p0.add (k3 * 3))) := k0
                  clear k0
                  refine Par.val_k fun K hK => ?_
                  unfold Par.val
                  (have c0 := hX.cell E0b.out; have c1 := hX.cell E1b.out; have c2 := hX.cell E2b.out; go_simp; exact hK _ _ ⟨Ext.refl _, rfl⟩)
                refine ⟨⟨fun _ _ => trivial, fun ρ w' hX hG hk => ?_⟩, ?_⟩
                · obtain ⟨k0, k1, k2, -⟩ := hk
                  have e0 := k0
                  have e1 : ρ (.tmp 86) = rv X (.slice V1 X.n.length V3) := k1
                  have e2 : ρ (.tmp 90) = rv X (.slice U1 X.n.length U3) := k2
                  clear k0 k1 k2
                  refine Par.val_k fun K hK => ?_
                  unfold Par.val
                  refine Par.val_call Tryd.func18 (by kernel_rfl) rfl e0 ?_
                  simp only [List.map_toArray, List.map_cons, List.map_nil, e1, e2]
                  refine (same5_any X X _ _ _ (BVb.out.ext hX) (BUb.out.ext hX)).mono ?_
                  rintro e w2 ⟨rfl, h2⟩
                  exact ⟨_, rfl, hK _ _ ⟨h2, (congrArg Value.bool HSB.out)⟩⟩
                refine ⟨⟨fun _ _ => trivial, fun ρ w' hX hG hk => ?_⟩, ?_⟩
                · obtain ⟨k0, -⟩ := hk
                  have e0 : ρ (.tmp 91) = Value.bool true := k0
                  clear k0
                  refine Par.val_k fun K hK => ?_
                  unfold Par.val
                  (go_simp; exact hK _ _ ⟨Ext.refl _, rfl⟩)
                refine ⟨⟨fun _ _ => trivial, fun ρ w' hX hG hk => ?_⟩, ?_⟩
                · obtain ⟨k0, -⟩ := hk
                  have e0 : ρ (.tmp 92) = Value.bool false := k0
                  clear k0
                  refine Par.val_k fun K hK => ?_
                  unfold Par.val
                  (go_simp; exact hK _ _ ⟨Ext.refl _, rfl⟩)
                refine ⟨⟨fun _ _ u hu => .inl hu, fun ρ w' hX hG hk => ?_⟩, ?_⟩
                · exact Par.val_of_run rfl ⟨Ext.refl _, hk.1⟩
                refine ⟨⟨fun _ _ u hu => .inl hu, fun ρ w' hX hG hk => ?_⟩, ?_⟩
                · exact Par.val_of_run rfl ⟨Ext.refl _, hk.1⟩
                refine ⟨⟨fun _ _ u hu => .inl hu, fun ρ w' hX hG hk => ?_⟩, ?_⟩
                · obtain ⟨k0, k1, -⟩ := hk
                  have e0 : ρ (.tmp 94) = Value.slice (some pe) n uc := k0
                  have e1 : ρ (.tmp 95) = Value.int IntKind.i64 (k3 : Int) := k1
                  clear k0 k1
                  refine Par.val_k fun K hK => ?_
                  unfold Par.val
                  (go_simp; exact hK _ _ ⟨Ext.refl _, rfl⟩)
                refine ⟨⟨fun _ _ u hu => .inl hu, fun ρ w' hX hG hk => ?_⟩, ?_⟩
                · obtain ⟨k0, -⟩ := hk
                  have e0 : ρ (.tmp 96) = Value.pointer (some (pe.add k3)) := k0
                  clear k0
                  refine Par.val_k fun K hK => ?_
                  unfold Par.val
                  (have c0 := hX.cell F0b.out; go_simp; exact hK _ _ ⟨Ext.refl _, rfl⟩)
                refine ⟨⟨fun _ _ u hu => .inl hu, fun ρ w' hX hG hk => ?_⟩, ?_⟩
                · exact Par.val_of_run rfl ⟨Ext.refl _, hk.1⟩
                refine ⟨⟨fun _ _ u hu => .inl hu, fun ρ w' hX hG hk => ?_⟩, ?_⟩
                · obtain ⟨k0, k1, -⟩ := hk
                  have e0 : ρ (.tmp 97) = Value.int IntKind.i64 (E : Int) := k0
                  have e1 : ρ (.tmp 98) = Value.int IntKind.i64 (0 : Int) := k1
                  clear k0 k1
                  refine Par.val_k fun K hK => ?_
                  unfold Par.val
                  (go_simp; exact hK _ _ ⟨Ext.refl _, rfl⟩)
                refine ⟨⟨fun _ _ => trivial, fun ρ w' hX hG hk => ?_⟩, ?_⟩
                · obtain ⟨k0, k1, k2, -⟩ := hk
                  have e0 : ρ (.tmp 93) = Value.bool false := k0
                  have e1 : ρ (Operand.const (Value.bool true)) = (Value.bool true) := k1
                  have e2 : ρ (.tmp 99) = Value.bool false := k2
                  clear k0 k1 k2
                  refine Par.val_k fun K hK => ?_
                  unfold Par.val
                  (go_simp; exact hK _ _ ⟨Ext.refl _, rfl⟩)
                trivial
              intro a' w' inv
              have hX := inv.ext
              have q86 : a'.tmps.getD 86 undef = rv X (.slice V1 X.n.length V3) := inv.done 0 _ 86 rfl rfl rfl
              have q87 : a'.tmps.getD 87 undef = Value.slice (some p0) l.length cap := inv.done 1 _ 87 rfl rfl rfl
              have q88 : a'.tmps.getD 88 undef = Value.int IntKind.i64 (k3 : Int) := inv.done 2 _ 88 rfl rfl rfl
              have q89 : a'.tmps.getD 89 undef = Value.pointer (some (p0.add (k3 * 3))) := inv.done 3 _ 89 rfl rfl rfl
              have q90 : a'.tmps.getD 90 undef = rv X (.slice U1 X.n.length U3) := inv.done 4 _ 90 rfl rfl rfl
              have q91 : a'.tmps.getD 91 undef = Value.bool true := inv.done 5 _ 91 rfl rfl rfl
              have q92 : a'.tmps.getD 92 undef = Value.bool false := inv.done 6 _ 92 rfl rfl rfl
              have q93 : a'.tmps.getD 93 undef = Value.bool false := inv.done 7 _ 93 rfl rfl rfl
              have q94 : a'.tmps.getD 94 undef = Value.slice (some pe) n uc := inv.done 8 _ 94 rfl rfl rfl
              have q95 : a'.tmps.getD 95 undef = Value.int IntKind.i64 (k3 : Int) := inv.done 9 _ 95 rfl rfl rfl
              have q96 : a'.tmps.getD 96 undef = Value.pointer (some (pe.add k3)) := inv.done 10 _ 96 rfl rfl rfl
              have q97 : a'.tmps.getD 97 undef = Value.int IntKind.i64 (E : Int) := inv.done 11 _ 97 rfl rfl rfl
              have q98 : a'.tmps.getD 98 undef = Value.int IntKind.i64 (0 : Int) := inv.done 12 _ 98 rfl rfl rfl
              have q99 : a'.tmps.getD 99 undef = Value.bool false := inv.done 13 _ 99 rfl rfl rfl
              have q100 : a'.tmps.getD 100 undef = Value.bool false := inv.done 14 _ 100 rfl rfl rfl
              clear inv
              simp only [List.filterMap_cons, List.filterMap_nil, Par.putAll, Act.put, List.setIfInBounds_toArray, List.set_cons_succ, List.set_cons_zero, q86, q87, q88, q89, q90, q91, q92, q93, q94, q95, q96, q97, q98, q99, q100]
              clear q86 q87 q88 q89 q90 q91 q92 q93 q94 q95 q96 q97 q98 q99 q100
              clear a'
              have HEc := HEb.out.trans hX
              go_wp2
              go_roundw
              case rel => exact ⟨k3 + 1, by omega, by go_num, HEc⟩
              case measure => simp [intOf]; omega
            · obtain rfl : k3 = n := by omega
              have hEz := HEF.out.trans HE3.out
              by_cases hz : k3 = 0
              · have hat0 : at_ = 0 := by rw [← HFC2.out, hz]; simp [fcat]
                have hgt : decide (0 < k3) = false := by simp [hz]
                have hgi : decide ((0 : Int) < k3) = false := by simp [hz]
                have hfin : ((0 : Int) == (0 : Int)) = true := by
                  first | rfl | (rw [beq_iff_eq]; have := HEC.out.1 (by simp); omega)
                clear hat0 hz
                go_wp2
                go_ret
                exact ⟨rfl, hEz⟩
              · have hgt : decide (0 < k3) = true := by simp; omega
                have hgi : decide ((0 : Int) < k3) = true := by simp; omega
                obtain ⟨pe, rfl⟩ := HU4.out (by omega)
                have hke : k3 - 1 < (fends 0 ((l.take k3).map recFr)).length := by rw [HEL.out]; omega
                have f0 := HE3.out.cell (HU5.out pe rfl (k3 - 1) hke)
                have hlast : (fends 0 ((l.take k3).map recFr))[k3 - 1] = at_ := by
                  rw [fends_at, Nat.zero_add, ← HFC2.out, List.take_of_length_le]
                  simp; omega
                rw [hlast] at f0
                have hi : ((k3 : Int) - 1) = ((k3 - 1 : Nat) : Int) := by omega
                have hfin : ((at_ : Int) == (0 : Int)) = true := by
                  rw [beq_iff_eq]; have := HEC.out.1 (by simp); omega
                clear hlast
                skip
                go_wp2
                go_ret
                exact ⟨rfl, hEz⟩
        · exact absurd (HEC.out.2 (by omega)) (by rw [he]; decide)
      by_cases hcD : (B.length : Int) < cut
      · have hc0' : c = B.length := by have := HCC.out; omega
        subst hc0'
        go_wp2_with fail
        refine (all5_any _ (B.take B.length) _ HBP.out (by rw [List.length_take]; omega) (HT.out.ext HE.out)).mono ?_
        rintro e w7 ⟨vl, ul, rfl, hl7, hu7, hw7⟩
        rw [HRALL.out] at hl7 hu7 ⊢
        simp only [] at hl7 hu7
        have hel : (fends 0 ((l.take n).map recFr)).length = n := by rw [fends_length]; simp; omega
        obtain ⟨pm, hpm, hrm, hBm⟩ := hl7.rcs
        obtain ⟨mo, mc, rfl, hm2, hm3, hm4, hm5⟩ := hrm.open
        obtain ⟨uo, uc, rfl, hu2, hu3, hu4, hu5⟩ := hu7.vec.open
        have hpl : pm.length = n := by
          have := congrArg List.length hpm
          simp at this; omega
        rw [hpl] at hm2 ⊢
        rw [hel] at hu2 ⊢
        have HEF := hid (HE.out.trans hw7)
        have HM4 := hid hm4
        have HM5 := hid hm5
        have HU4 := hid hu4
        have HU5 := hid hu5
        have HM1 := hid hpl
        have HEL := hid hel
        have HPM := hid hpm
        have HBM := hid hBm
        clear hl7 hu7 hw7 hrm hm4 hm5 hu4 hu5 hpl hel hpm hBm HRALL HBP HO2
        rcases he with he | he
        · subst he
          go_wp2
          go_loopw [81] (fun i wr => ∃ k3 : Nat, k3 ≤ n ∧ i = .int .i64 k3 ∧ Hid (Ext w7 wr)) (fun i _ => n - (intOf i).toNat)
          case atStart => exact ⟨0, by omega, rfl, Ext.refl _⟩
          case round =>
            obtain ⟨k3, hk3, rfl, HE3⟩ := hrel
            by_cases hlt3 : k3 < n
            · have hkm : k3 < pm.length := by rw [HM1.out]; exact hlt3
              have hkq : k3 < q.length := by rw [HQL.out]; omega
              have hke : k3 < (fends 0 ((l.take n).map recFr)).length := by rw [HEL.out]; exact hlt3
              obtain ⟨p7, rfl⟩ := HM4.out (by omega)
              obtain ⟨p0, rfl⟩ := HC3.out (by omega)
              obtain ⟨pe, rfl⟩ := HU4.out (by omega)
              have hsame : pm[k3].1 = q[k3].1 := by
                have h1 : (pm.map (·.1))[k3]? = ((q.map (·.1)).take n)[k3]? := by rw [HPM.out, HQ.out]
                rw [List.getElem?_take, if_pos hlt3, List.getElem?_map, List.getElem?_map, List.getElem?_eq_getElem hkm, List.getElem?_eq_getElem hkq] at h1
                simpa using h1
              have d0 := cell_first (HE3.out.cell (HM5.out p7 rfl k3 hkm 0 _ rfl))
              have d1 := cell_next (HE3.out.cell (HM5.out p7 rfl k3 hkm 1 _ rfl)) (by decide)
              have d2 := cell_next (HE3.out.cell (HM5.out p7 rfl k3 hkm 2 _ rfl)) (by decide)
              have e0 := cell_first ((HEF.out.trans HE3.out).cell (HC.out p0 rfl k3 hkq 0 _ rfl))
              have e1' := cell_next ((HEF.out.trans HE3.out).cell (HC.out p0 rfl k3 hkq 1 _ rfl)) (by decide)
              have e2' := cell_next ((HEF.out.trans HE3.out).cell (HC.out p0 rfl k3 hkq 2 _ rfl)) (by decide)
              have f0 := HE3.out.cell (HU5.out pe rfl k3 hke)
              have hfle : (fends 0 ((l.take n).map recFr))[k3] ≤ at_ := by
                have := fends_le ((l.take n).map recFr) 0 _ (List.getElem_mem hke)
                rw [Nat.zero_add, HFC2.out] at this; exact this
              obtain ⟨E, hE0⟩ : ∃ E, (fends 0 ((l.take n).map recFr))[k3] = E := ⟨_, rfl⟩
              rw [hE0] at f0 hfle
              have hBq := HBM.out _ (List.getElem_mem hkm)
              have hBc := HB.out _ (List.getElem_mem hkq)
              rw [← hsame] at e0 e2' hBc
              obtain ⟨X, hX0⟩ : ∃ X, pm[k3].1 = X := ⟨_, rfl⟩
              obtain ⟨U, hU0⟩ : ∃ U, q[k3].2 = U := ⟨_, rfl⟩
              obtain ⟨V, hV0⟩ : ∃ V, pm[k3].2 = V := ⟨_, rfl⟩
              rw [hX0] at d0 d2 e0 e2' hBq hBc
              rw [hV0] at d1 hBq
              rw [hU0] at e1' hBc
              obtain ⟨U1, U3, rfl, -⟩ := hBc.open
              obtain ⟨V1, V3, rfl, -⟩ := hBq.open
              have BU := hid (hBc.ext (HEF.out.trans HE3.out))
              have BV := hid (hBq.ext HE3.out)
              have HSB := hid (show recSame X X = true by simp [recSame])
              have hxr := Ext.alloc wr (.cells #[.int .i64 X.kind, .slice V1 X.n.length V3, .string (str X.text)] 24)
              have hY := blk3 (heap_alloc_new wr (.cells #[.int .i64 X.kind, .slice V1 X.n.length V3, .string (str X.text)] 24))
              have E0b := hid (hxr.cell e0)
              have E1b := hid (hxr.cell e1')
              have E2b := hid (hxr.cell e2')
              have F0b := hid (hxr.cell f0)
              have HY := hid hY
              have BUb := hid (BU.out.ext hxr)
              have BVb := hid (BV.out.ext hxr)
              have HEb := hid (HE3.out.trans hxr)
              have hI : (k3 : Int) < (n : Int) := by omega
              have hI1 : (k3 : Int) < (l.length : Int) := by omega
              have hI0 : (0 : Int) ≤ k3 := by omega
              have hgE : decide (B.length < E) = false := by simp; omega
              clear hsame hX0 hU0 hV0 hBq hBc e0 e1' e2' f0 BU BV hE0 hxr hY
              go_wp2_with fail
              clear d0 d1 d2
              generalize wr.heap.size = br at *
              generalize wr.alloc (.cells #[.int .i64 X.kind, .slice V1 X.n.length V3, .string (str X.text)] 24) = W9 at *
              refine Par.wp_region_par (l := [_, _, _, _, _, _, _, _, _, _, _, _, _, _, _]) rfl Ext (Par.VL [Par.EQ (rv X (.slice V1 X.n.length V3)), Par.EQ (Value.slice (some p0) l.length cap), Par.EQ (Value.int IntKind.i64 (k3 : Int)), Par.EQ (Value.pointer (some (p0.add (k3 * 3)))), Par.EQ (rv X (.slice U1 X.n.length U3)), Par.EQ (Value.bool true), Par.EQ (Value.bool false), Par.EQ (Value.bool false), Par.EQ (Value.slice (some pe) n uc), Par.EQ (Value.int IntKind.i64 (k3 : Int)), Par.EQ (Value.pointer (some (pe.add k3))), Par.EQ (Value.int IntKind.i64 (E : Int)), Par.EQ (Value.int IntKind.i64 (B.length : Int)), Par.EQ (Value.bool false), Par.EQ (Value.bool false)]) (by kernel_rfl) Ext.refl (fun _ _ _ h1 h2 => Ext.trans h1 h2) (Ext.draw _) (Par.VL_stab ?_) ?_ ?_
              · simp only [List.forall_mem_cons, List.not_mem_nil, false_implies, implies_true, and_true]
                refine ⟨fun _ _ _ _ h => h, fun _ _ _ _ h => h, fun _ _ _ _ h => h, fun _ _ _ _ h => h, fun _ _ _ _ h => h, fun _ _ _ _ h => h, fun _ _ _ _ h => h, fun _ _ _ _ h => h, fun _ _ _ _ h => h, fun _ _ _ _ h => h, fun _ _ _ _ h => h, fun _ _ _ _ h => h, fun _ _ _ _ h => h, fun _ _ _ _ h => h, fun _ _ _ _ h => h⟩
              · refine ⟨⟨fun _ _ => trivial, fun ρ w' hX hG hk => ?_⟩, ?_⟩
                · obtain ⟨k0, -⟩ := hk
                  have e0 : ρ (.tmp 15) = Value.pointer (some ⟨br, 0, none⟩) := k0
                  clear k0
                  refine Par.val_k fun K hK => ?_
                  unfold Par.val
                  (have c0 := hX.cell HY.out.1; have c1 := hX.cell HY.out.2.1; have c2 := hX.cell HY.out.2.2; go_simp; exact hK _ _ ⟨Ext.refl _, rfl⟩)
                refine ⟨⟨fun _ _ => trivial, fun ρ w' hX hG hk => ?_⟩, ?_⟩
                · exact Par.val_of_run rfl ⟨Ext.refl _, hk.1⟩
                refine ⟨⟨fun _ _ => trivial, fun ρ w' hX hG hk => ?_⟩, ?_⟩
                · exact Par.val_of_run rfl ⟨Ext.refl _, hk.1⟩
                refine ⟨⟨fun _ _ => trivial, fun ρ w' hX hG hk => ?_⟩, ?_⟩
                · obtain ⟨k0, k1, -⟩ := hk
                  have e0 : ρ (.tmp 87) = Value.slice (some p0) l.length cap := k0
                  have e1 : ρ (.tmp 88) = Value.int IntKind.i64 (k3 : Int) := k1
                  clear k0 k1
                  refine Par.val_k fun K hK => ?_
                  unfold Par.val
                  (go_simp; exact hK _ _ ⟨Ext.refl _, rfl⟩)
                refine ⟨⟨fun _ _ => trivial, fun ρ w' hX hG hk => ?_⟩, ?_⟩
                · obtain ⟨k0, -⟩ := hk
                  have e0 : ρ (.tmp 89) = Value.pointer (some (p0.add (k3 * 3))) := k0
                  clear k0
                  refine Par.val_k fun K hK => ?_
                  unfold Par.val
                  (have c0 := hX.cell E0b.out; have c1 := hX.cell E1b.out; have c2 := hX.cell E2b.out; go_simp; exact hK _ _ ⟨Ext.refl _, rfl⟩)
                refine ⟨⟨fun _ _ => trivial, fun ρ w' hX hG hk => ?_⟩, ?_⟩
                · obtain ⟨k0, k1, k2, -⟩ := hk
                  have e0 := k0
                  have e1 : ρ (.tmp 86) = rv X (.slice V1 X.n.length V3) := k1
                  have e2 : ρ (.tmp 90) = rv X (.slice U1 X.n.length U3) := k2
                  clear k0 k1 k2
                  refine Par.val_k fun K hK => ?_
                  unfold Par.val
                  refine Par.val_call Tryd.func18 (by kernel_rfl) rfl e0 ?_
                  simp only [List.map_toArray, List.map_cons, List.map_nil, e1, e2]
                  refine (same5_any X X _ _ _ (BVb.out.ext hX) (BUb.out.ext hX)).mono ?_
                  rintro e w2 ⟨rfl, h2⟩
                  exact ⟨_, rfl, hK _ _ ⟨h2, (congrArg Value.bool HSB.out)⟩⟩
                refine ⟨⟨fun _ _ => trivial, fun ρ w' hX hG hk => ?_⟩, ?_⟩
                · obtain ⟨k0, -⟩ := hk
                  have e0 : ρ (.tmp 91) = Value.bool true := k0
                  clear k0
                  refine Par.val_k fun K hK => ?_
                  unfold Par.val
                  (go_simp; exact hK _ _ ⟨Ext.refl _, rfl⟩)
                refine ⟨⟨fun _ _ => trivial, fun ρ w' hX hG hk => ?_⟩, ?_⟩
                · obtain ⟨k0, -⟩ := hk
                  have e0 : ρ (.tmp 92) = Value.bool false := k0
                  clear k0
                  refine Par.val_k fun K hK => ?_
                  unfold Par.val
                  (go_simp; exact hK _ _ ⟨Ext.refl _, rfl⟩)
                refine ⟨⟨fun _ _ u hu => .inl hu, fun ρ w' hX hG hk => ?_⟩, ?_⟩
                · exact Par.val_of_run rfl ⟨Ext.refl _, hk.1⟩
                refine ⟨⟨fun _ _ u hu => .inl hu, fun ρ w' hX hG hk => ?_⟩, ?_⟩
                · exact Par.val_of_run rfl ⟨Ext.refl _, hk.1⟩
                refine ⟨⟨fun _ _ u hu => .inl hu, fun ρ w' hX hG hk => ?_⟩, ?_⟩
                · obtain ⟨k0, k1, -⟩ := hk
                  have e0 : ρ (.tmp 94) = Value.slice (some pe) n uc := k0
                  have e1 : ρ (.tmp 95) = Value.int IntKind.i64 (k3 : Int) := k1
                  clear k0 k1
                  refine Par.val_k fun K hK => ?_
                  unfold Par.val
                  (go_simp; exact hK _ _ ⟨Ext.refl _, rfl⟩)
                refine ⟨⟨fun _ _ u hu => .inl hu, fun ρ w' hX hG hk => ?_⟩, ?_⟩
                · obtain ⟨k0, -⟩ := hk
                  have e0 : ρ (.tmp 96) = Value.pointer (some (pe.add k3)) := k0
                  clear k0
                  refine Par.val_k fun K hK => ?_
                  unfold Par.val
                  (have c0 := hX.cell F0b.out; go_simp; exact hK _ _ ⟨Ext.refl _, rfl⟩)
                refine ⟨⟨fun _ _ u hu => .inl hu, fun ρ w' hX hG hk => ?_⟩, ?_⟩
                · exact Par.val_of_run rfl ⟨Ext.refl _, hk.1⟩
                refine ⟨⟨fun _ _ u hu => .inl hu, fun ρ w' hX hG hk => ?_⟩, ?_⟩
                · obtain ⟨k0, k1, -⟩ := hk
                  have e0 : ρ (.tmp 97) = Value.int IntKind.i64 (E : Int) := k0
                  have e1 : ρ (.tmp 98) = Value.int IntKind.i64 (B.length : Int) := k1
                  clear k0 k1
                  refine Par.val_k fun K hK => ?_
                  unfold Par.val
                  (go_simp; exact hK _ _ ⟨Ext.refl _, rfl⟩)
                refine ⟨⟨fun _ _ => trivial, fun ρ w' hX hG hk => ?_⟩, ?_⟩
                · obtain ⟨k0, k1, k2, -⟩ := hk
                  have e0 : ρ (.tmp 93) = Value.bool false := k0
                  have e1 : ρ (Operand.const (Value.bool true)) = (Value.bool true) := k1
                  have e2 : ρ (.tmp 99) = Value.bool false := k2
                  clear k0 k1 k2
                  refine Par.val_k fun K hK => ?_
                  unfold Par.val
                  (go_simp; exact hK _ _ ⟨Ext.refl _, rfl⟩)
                trivial
              intro a' w' inv
              have hX := inv.ext
              have q86 : a'.tmps.getD 86 undef = rv X (.slice V1 X.n.length V3) := inv.done 0 _ 86 rfl rfl rfl
              have q87 : a'.tmps.getD 87 undef = Value.slice (some p0) l.length cap := inv.done 1 _ 87 rfl rfl rfl
              have q88 : a'.tmps.getD 88 undef = Value.int IntKind.i64 (k3 : Int) := inv.done 2 _ 88 rfl rfl rfl
              have q89 : a'.tmps.getD 89 undef = Value.pointer (some (p0.add (k3 * 3))) := inv.done 3 _ 89 rfl rfl rfl
              have q90 : a'.tmps.getD 90 undef = rv X (.slice U1 X.n.length U3) := inv.done 4 _ 90 rfl rfl rfl
              have q91 : a'.tmps.getD 91 undef = Value.bool true := inv.done 5 _ 91 rfl rfl rfl
              have q92 : a'.tmps.getD 92 undef = Value.bool false := inv.done 6 _ 92 rfl rfl rfl
              have q93 : a'.tmps.getD 93 undef = Value.bool false := inv.done 7 _ 93 rfl rfl rfl
              have q94 : a'.tmps.getD 94 undef = Value.slice (some pe) n uc := inv.done 8 _ 94 rfl rfl rfl
              have q95 : a'.tmps.getD 95 undef = Value.int IntKind.i64 (k3 : Int) := inv.done 9 _ 95 rfl rfl rfl
              have q96 : a'.tmps.getD 96 undef = Value.pointer (some (pe.add k3)) := inv.done 10 _ 96 rfl rfl rfl
              have q97 : a'.tmps.getD 97 undef = Value.int IntKind.i64 (E : Int) := inv.done 11 _ 97 rfl rfl rfl
              have q98 : a'.tmps.getD 98 undef = Value.int IntKind.i64 (B.length : Int) := inv.done 12 _ 98 rfl rfl rfl
              have q99 : a'.tmps.getD 99 undef = Value.bool false := inv.done 13 _ 99 rfl rfl rfl
              have q100 : a'.tmps.getD 100 undef = Value.bool false := inv.done 14 _ 100 rfl rfl rfl
              clear inv
              simp only [List.filterMap_cons, List.filterMap_nil, Par.putAll, Act.put, List.setIfInBounds_toArray, List.set_cons_succ, List.set_cons_zero, q86, q87, q88, q89, q90, q91, q92, q93, q94, q95, q96, q97, q98, q99, q100]
              clear q86 q87 q88 q89 q90 q91 q92 q93 q94 q95 q96 q97 q98 q99 q100
              clear a'
              have HEc := HEb.out.trans hX
              go_wp2
              go_roundw
              case rel => exact ⟨k3 + 1, by omega, by go_num, HEc⟩
              case measure => simp [intOf]; omega
            · obtain rfl : k3 = n := by omega
              have hEz := HEF.out.trans HE3.out
              by_cases hz : k3 = 0
              · have hat0 : at_ = 0 := by rw [← HFC2.out, hz]; simp [fcat]
                have hgt : decide (0 < k3) = false := by simp [hz]
                have hgi : decide ((0 : Int) < k3) = false := by simp [hz]
                have hfin : ((0 : Int) == (B.length : Int)) = true := by
                  first | rfl | (rw [beq_iff_eq]; have := HEC.out.1 (by simp); omega)
                clear hat0 hz
                go_wp2
                go_ret
                exact ⟨rfl, hEz⟩
              · have hgt : decide (0 < k3) = true := by simp; omega
                have hgi : decide ((0 : Int) < k3) = true := by simp; omega
                obtain ⟨pe, rfl⟩ := HU4.out (by omega)
                have hke : k3 - 1 < (fends 0 ((l.take k3).map recFr)).length := by rw [HEL.out]; omega
                have f0 := HE3.out.cell (HU5.out pe rfl (k3 - 1) hke)
                have hlast : (fends 0 ((l.take k3).map recFr))[k3 - 1] = at_ := by
                  rw [fends_at, Nat.zero_add, ← HFC2.out, List.take_of_length_le]
                  simp; omega
                rw [hlast] at f0
                have hi : ((k3 : Int) - 1) = ((k3 - 1 : Nat) : Int) := by omega
                have hfin : ((at_ : Int) == (B.length : Int)) = true := by
                  rw [beq_iff_eq]; have := HEC.out.1 (by simp); omega
                clear hlast
                skip
                go_wp2
                go_ret
                exact ⟨rfl, hEz⟩
        · subst he
          go_wp2
          go_loopw [81] (fun i wr => ∃ k3 : Nat, k3 ≤ n ∧ i = .int .i64 k3 ∧ Hid (Ext w7 wr)) (fun i _ => n - (intOf i).toNat)
          case atStart => exact ⟨0, by omega, rfl, Ext.refl _⟩
          case round =>
            obtain ⟨k3, hk3, rfl, HE3⟩ := hrel
            by_cases hlt3 : k3 < n
            · have hkm : k3 < pm.length := by rw [HM1.out]; exact hlt3
              have hkq : k3 < q.length := by rw [HQL.out]; omega
              have hke : k3 < (fends 0 ((l.take n).map recFr)).length := by rw [HEL.out]; exact hlt3
              obtain ⟨p7, rfl⟩ := HM4.out (by omega)
              obtain ⟨p0, rfl⟩ := HC3.out (by omega)
              obtain ⟨pe, rfl⟩ := HU4.out (by omega)
              have hsame : pm[k3].1 = q[k3].1 := by
                have h1 : (pm.map (·.1))[k3]? = ((q.map (·.1)).take n)[k3]? := by rw [HPM.out, HQ.out]
                rw [List.getElem?_take, if_pos hlt3, List.getElem?_map, List.getElem?_map, List.getElem?_eq_getElem hkm, List.getElem?_eq_getElem hkq] at h1
                simpa using h1
              have d0 := cell_first (HE3.out.cell (HM5.out p7 rfl k3 hkm 0 _ rfl))
              have d1 := cell_next (HE3.out.cell (HM5.out p7 rfl k3 hkm 1 _ rfl)) (by decide)
              have d2 := cell_next (HE3.out.cell (HM5.out p7 rfl k3 hkm 2 _ rfl)) (by decide)
              have e0 := cell_first ((HEF.out.trans HE3.out).cell (HC.out p0 rfl k3 hkq 0 _ rfl))
              have e1' := cell_next ((HEF.out.trans HE3.out).cell (HC.out p0 rfl k3 hkq 1 _ rfl)) (by decide)
              have e2' := cell_next ((HEF.out.trans HE3.out).cell (HC.out p0 rfl k3 hkq 2 _ rfl)) (by decide)
              have f0 := HE3.out.cell (HU5.out pe rfl k3 hke)
              have hfle : (fends 0 ((l.take n).map recFr))[k3] ≤ at_ := by
                have := fends_le ((l.take n).map recFr) 0 _ (List.getElem_mem hke)
                rw [Nat.zero_add, HFC2.out] at this; exact this
              obtain ⟨E, hE0⟩ : ∃ E, (fends 0 ((l.take n).map recFr))[k3] = E := ⟨_, rfl⟩
              rw [hE0] at f0 hfle
              have hBq := HBM.out _ (List.getElem_mem hkm)
              have hBc := HB.out _ (List.getElem_mem hkq)
              rw [← hsame] at e0 e2' hBc
              obtain ⟨X, hX0⟩ : ∃ X, pm[k3].1 = X := ⟨_, rfl⟩
              obtain ⟨U, hU0⟩ : ∃ U, q[k3].2 = U := ⟨_, rfl⟩
              obtain ⟨V, hV0⟩ : ∃ V, pm[k3].2 = V := ⟨_, rfl⟩
              rw [hX0] at d0 d2 e0 e2' hBq hBc
              rw [hV0] at d1 hBq
              rw [hU0] at e1' hBc
              obtain ⟨U1, U3, rfl, -⟩ := hBc.open
              obtain ⟨V1, V3, rfl, -⟩ := hBq.open
              have BU := hid (hBc.ext (HEF.out.trans HE3.out))
              have BV := hid (hBq.ext HE3.out)
              have HSB := hid (show recSame X X = true by simp [recSame])
              have hxr := Ext.alloc wr (.cells #[.int .i64 X.kind, .slice V1 X.n.length V3, .string (str X.text)] 24)
              have hY := blk3 (heap_alloc_new wr (.cells #[.int .i64 X.kind, .slice V1 X.n.length V3, .string (str X.text)] 24))
              have E0b := hid (hxr.cell e0)
              have E1b := hid (hxr.cell e1')
              have E2b := hid (hxr.cell e2')
              have F0b := hid (hxr.cell f0)
              have HY := hid hY
              have BUb := hid (BU.out.ext hxr)
              have BVb := hid (BV.out.ext hxr)
              have HEb := hid (HE3.out.trans hxr)
              have hI : (k3 : Int) < (n : Int) := by omega
              have hI1 : (k3 : Int) < (l.length : Int) := by omega
              have hI0 : (0 : Int) ≤ k3 := by omega
              have hgE : decide (B.length < E) = false := by simp; omega
              clear hsame hX0 hU0 hV0 hBq hBc e0 e1' e2' f0 BU BV hE0 hxr hY
              go_wp2_with fail
              clear d0 d1 d2
              generalize wr.heap.size = br at *
              generalize wr.alloc (.cells #[.int .i64 X.kind, .slice V1 X.n.length V3, .string (str X.text)] 24) = W9 at *
              refine Par.wp_region_par (l := [_, _, _, _, _, _, _, _, _, _, _, _, _, _, _]) rfl Ext (Par.VL [Par.EQ (rv X (.slice V1 X.n.length V3)), Par.EQ (Value.slice (some p0) l.length cap), Par.EQ (Value.int IntKind.i64 (k3 : Int)), Par.EQ (Value.pointer (some (p0.add (k3 * 3)))), Par.EQ (rv X (.slice U1 X.n.length U3)), Par.EQ (Value.bool true), Par.EQ (Value.bool false), Par.EQ (Value.bool false), Par.EQ (Value.slice (some pe) n uc), Par.EQ (Value.int IntKind.i64 (k3 : Int)), Par.EQ (Value.pointer (some (pe.add k3))), Par.EQ (Value.int IntKind.i64 (E : Int)), Par.EQ (Value.int IntKind.i64 (B.length : Int)), Par.EQ (Value.bool false), Par.EQ (Value.bool false)]) (by kernel_rfl) Ext.refl (fun _ _ _ h1 h2 => Ext.trans h1 h2) (Ext.draw _) (Par.VL_stab ?_) ?_ ?_
              · simp only [List.forall_mem_cons, List.not_mem_nil, false_implies, implies_true, and_true]
                refine ⟨fun _ _ _ _ h => h, fun _ _ _ _ h => h, fun _ _ _ _ h => h, fun _ _ _ _ h => h, fun _ _ _ _ h => h, fun _ _ _ _ h => h, fun _ _ _ _ h => h, fun _ _ _ _ h => h, fun _ _ _ _ h => h, fun _ _ _ _ h => h, fun _ _ _ _ h => h, fun _ _ _ _ h => h, fun _ _ _ _ h => h, fun _ _ _ _ h => h, fun _ _ _ _ h => h⟩
              · refine ⟨⟨fun _ _ => trivial, fun ρ w' hX hG hk => ?_⟩, ?_⟩
                · obtain ⟨k0, -⟩ := hk
                  have e0 : ρ (.tmp 15) = Value.pointer (some ⟨br, 0, none⟩) := k0
                  clear k0
                  refine Par.val_k fun K hK => ?_
                  unfold Par.val
                  (have c0 := hX.cell HY.out.1; have c1 := hX.cell HY.out.2.1; have c2 := hX.cell HY.out.2.2; go_simp; exact hK _ _ ⟨Ext.refl _, rfl⟩)
                refine ⟨⟨fun _ _ => trivial, fun ρ w' hX hG hk => ?_⟩, ?_⟩
                · exact Par.val_of_run rfl ⟨Ext.refl _, hk.1⟩
                refine ⟨⟨fun _ _ => trivial, fun ρ w' hX hG hk => ?_⟩, ?_⟩
                · exact Par.val_of_run rfl ⟨Ext.refl _, hk.1⟩
                refine ⟨⟨fun _ _ => trivial, fun ρ w' hX hG hk => ?_⟩, ?_⟩
                · obtain ⟨k0, k1, -⟩ := hk
                  have e0 : ρ (.tmp 87) = Value.slice (some p0) l.length cap := k0
                  have e1 : ρ (.tmp 88) = Value.int IntKind.i64 (k3 : Int) := k1
                  clear k0 k1
                  refine Par.val_k fun K hK => ?_
                  unfold Par.val
                  (go_simp; exact hK _ _ ⟨Ext.refl _, rfl⟩)
                refine ⟨⟨fun _ _ => trivial, fun ρ w' hX hG hk => ?_⟩, ?_⟩
                · obtain ⟨k0, -⟩ := hk
                  have e0 : ρ (.tmp 89) = Value.pointer (some (p0.add (k3 * 3))) := k0
                  clear k0
                  refine Par.val_k fun K hK => ?_
                  unfold Par.val
                  (have c0 := hX.cell E0b.out; have c1 := hX.cell E1b.out; have c2 := hX.cell E2b.out; go_simp; exact hK _ _ ⟨Ext.refl _, rfl⟩)
                refine ⟨⟨fun _ _ => trivial, fun ρ w' hX hG hk => ?_⟩, ?_⟩
                · obtain ⟨k0, k1, k2, -⟩ := hk
                  have e0 := k0
                  have e1 : ρ (.tmp 86) = rv X (.slice V1 X.n.length V3) := k1
                  have e2 : ρ (.tmp 90) = rv X (.slice U1 X.n.length U3) := k2
                  clear k0 k1 k2
                  refine Par.val_k fun K hK => ?_
                  unfold Par.val
                  refine Par.val_call Tryd.func18 (by kernel_rfl) rfl e0 ?_
                  simp only [List.map_toArray, List.map_cons, List.map_nil, e1, e2]
                  refine (same5_any X X _ _ _ (BVb.out.ext hX) (BUb.out.ext hX)).mono ?_
                  rintro e w2 ⟨rfl, h2⟩
                  exact ⟨_, rfl, hK _ _ ⟨h2, (congrArg Value.bool HSB.out)⟩⟩
                refine ⟨⟨fun _ _ => trivial, fun ρ w' hX hG hk => ?_⟩, ?_⟩
                · obtain ⟨k0, -⟩ := hk
                  have e0 : ρ (.tmp 91) = Value.bool true := k0
                  clear k0
                  refine Par.val_k fun K hK => ?_
                  unfold Par.val
                  (go_simp; exact hK _ _ ⟨Ext.refl _, rfl⟩)
                refine ⟨⟨fun _ _ => trivial, fun ρ w' hX hG hk => ?_⟩, ?_⟩
                · obtain ⟨k0, -⟩ := hk
                  have e0 : ρ (.tmp 92) = Value.bool false := k0
                  clear k0
                  refine Par.val_k fun K hK => ?_
                  unfold Par.val
                  (go_simp; exact hK _ _ ⟨Ext.refl _, rfl⟩)
                refine ⟨⟨fun _ _ u hu => .inl hu, fun ρ w' hX hG hk => ?_⟩, ?_⟩
                · exact Par.val_of_run rfl ⟨Ext.refl _, hk.1⟩
                refine ⟨⟨fun _ _ u hu => .inl hu, fun ρ w' hX hG hk => ?_⟩, ?_⟩
                · exact Par.val_of_run rfl ⟨Ext.refl _, hk.1⟩
                refine ⟨⟨fun _ _ u hu => .inl hu, fun ρ w' hX hG hk => ?_⟩, ?_⟩
                · obtain ⟨k0, k1, -⟩ := hk
                  have e0 : ρ (.tmp 94) = Value.slice (some pe) n uc := k0
                  have e1 : ρ (.tmp 95) = Value.int IntKind.i64 (k3 : Int) := k1
                  clear k0 k1
                  refine Par.val_k fun K hK => ?_
                  unfold Par.val
                  (go_simp; exact hK _ _ ⟨Ext.refl _, rfl⟩)
                refine ⟨⟨fun _ _ u hu => .inl hu, fun ρ w' hX hG hk => ?_⟩, ?_⟩
                · obtain ⟨k0, -⟩ := hk
                  have e0 : ρ (.tmp 96) = Value.pointer (some (pe.add k3)) := k0
                  clear k0
                  refine Par.val_k fun K hK => ?_
                  unfold Par.val
                  (have c0 := hX.cell F0b.out; go_simp; exact hK _ _ ⟨Ext.refl _, rfl⟩)
                refine ⟨⟨fun _ _ u hu => .inl hu, fun ρ w' hX hG hk => ?_⟩, ?_⟩
                · exact Par.val_of_run rfl ⟨Ext.refl _, hk.1⟩
                refine ⟨⟨fun _ _ u hu => .inl hu, fun ρ w' hX hG hk => ?_⟩, ?_⟩
                · obtain ⟨k0, k1, -⟩ := hk
                  have e0 : ρ (.tmp 97) = Value.int IntKind.i64 (E : Int) := k0
                  have e1 : ρ (.tmp 98) = Value.int IntKind.i64 (B.length : Int) := k1
                  clear k0 k1
                  refine Par.val_k fun K hK => ?_
                  unfold Par.val
                  (go_simp; exact hK _ _ ⟨Ext.refl _, rfl⟩)
                refine ⟨⟨fun _ _ => trivial, fun ρ w' hX hG hk => ?_⟩, ?_⟩
                · obtain ⟨k0, k1, k2, -⟩ := hk
                  have e0 : ρ (.tmp 93) = Value.bool false := k0
                  have e1 : ρ (Operand.const (Value.bool true)) = (Value.bool true) := k1
                  have e2 : ρ (.tmp 99) = Value.bool false := k2
                  clear k0 k1 k2
                  refine Par.val_k fun K hK => ?_
                  unfold Par.val
                  (go_simp; exact hK _ _ ⟨Ext.refl _, rfl⟩)
                trivial
              intro a' w' inv
              have hX := inv.ext
              have q86 : a'.tmps.getD 86 undef = rv X (.slice V1 X.n.length V3) := inv.done 0 _ 86 rfl rfl rfl
              have q87 : a'.tmps.getD 87 undef = Value.slice (some p0) l.length cap := inv.done 1 _ 87 rfl rfl rfl
              have q88 : a'.tmps.getD 88 undef = Value.int IntKind.i64 (k3 : Int) := inv.done 2 _ 88 rfl rfl rfl
              have q89 : a'.tmps.getD 89 undef = Value.pointer (some (p0.add (k3 * 3))) := inv.done 3 _ 89 rfl rfl rfl
              have q90 : a'.tmps.getD 90 undef = rv X (.slice U1 X.n.length U3) := inv.done 4 _ 90 rfl rfl rfl
              have q91 : a'.tmps.getD 91 undef = Value.bool true := inv.done 5 _ 91 rfl rfl rfl
              have q92 : a'.tmps.getD 92 undef = Value.bool false := inv.done 6 _ 92 rfl rfl rfl
              have q93 : a'.tmps.getD 93 undef = Value.bool false := inv.done 7 _ 93 rfl rfl rfl
              have q94 : a'.tmps.getD 94 undef = Value.slice (some pe) n uc := inv.done 8 _ 94 rfl rfl rfl
              have q95 : a'.tmps.getD 95 undef = Value.int IntKind.i64 (k3 : Int) := inv.done 9 _ 95 rfl rfl rfl
              have q96 : a'.tmps.getD 96 undef = Value.pointer (some (pe.add k3)) := inv.done 10 _ 96 rfl rfl rfl
              have q97 : a'.tmps.getD 97 undef = Value.int IntKind.i64 (E : Int) := inv.done 11 _ 97 rfl rfl rfl
              have q98 : a'.tmps.getD 98 undef = Value.int IntKind.i64 (B.length : Int) := inv.done 12 _ 98 rfl rfl rfl
              have q99 : a'.tmps.getD 99 undef = Value.bool false := inv.done 13 _ 99 rfl rfl rfl
              have q100 : a'.tmps.getD 100 undef = Value.bool false := inv.done 14 _ 100 rfl rfl rfl
              clear inv
              simp only [List.filterMap_cons, List.filterMap_nil, Par.putAll, Act.put, List.setIfInBounds_toArray, List.set_cons_succ, List.set_cons_zero, q86, q87, q88, q89, q90, q91, q92, q93, q94, q95, q96, q97, q98, q99, q100]
              clear q86 q87 q88 q89 q90 q91 q92 q93 q94 q95 q96 q97 q98 q99 q100
              clear a'
              have HEc := HEb.out.trans hX
              go_wp2
              go_roundw
              case rel => exact ⟨k3 + 1, by omega, by go_num, HEc⟩
              case measure => simp [intOf]; omega
            · obtain rfl : k3 = n := by omega
              have hEz := HEF.out.trans HE3.out
              by_cases hz : k3 = 0
              · have hat0 : at_ = 0 := by rw [← HFC2.out, hz]; simp [fcat]
                have hgt : decide (0 < k3) = false := by simp [hz]
                have hgi : decide ((0 : Int) < k3) = false := by simp [hz]
                have hfin : ((0 : Int) == (B.length : Int)) = false := by
                  rw [beq_eq_false_iff_ne]; intro h; exact absurd (HEC.out.2 (by omega)) (by decide)
                clear hat0 hz
                go_wp2
                go_ret
                exact ⟨rfl, hEz⟩
              · have hgt : decide (0 < k3) = true := by simp; omega
                have hgi : decide ((0 : Int) < k3) = true := by simp; omega
                obtain ⟨pe, rfl⟩ := HU4.out (by omega)
                have hke : k3 - 1 < (fends 0 ((l.take k3).map recFr)).length := by rw [HEL.out]; omega
                have f0 := HE3.out.cell (HU5.out pe rfl (k3 - 1) hke)
                have hlast : (fends 0 ((l.take k3).map recFr))[k3 - 1] = at_ := by
                  rw [fends_at, Nat.zero_add, ← HFC2.out, List.take_of_length_le]
                  simp; omega
                rw [hlast] at f0
                have hi : ((k3 : Int) - 1) = ((k3 - 1 : Nat) : Int) := by omega
                have hfin : ((at_ : Int) == (B.length : Int)) = false := by
                  rw [beq_eq_false_iff_ne]; intro h; exact absurd (HEC.out.2 (by omega)) (by decide)
                clear hlast
                skip
                go_wp2
                go_ret
                exact ⟨rfl, hEz⟩
      · have hc0' : cut = (c : Int) := by have := HCC.out; omega
        subst hc0'
        go_wp2_with fail
        refine (all5_any _ (B.take c) _ HBP.out (by rw [List.length_take]; omega) (HT.out.ext HE.out)).mono ?_
        rintro e w7 ⟨vl, ul, rfl, hl7, hu7, hw7⟩
        rw [HRALL.out] at hl7 hu7 ⊢
        simp only [] at hl7 hu7
        have hel : (fends 0 ((l.take n).map recFr)).length = n := by rw [fends_length]; simp; omega
        obtain ⟨pm, hpm, hrm, hBm⟩ := hl7.rcs
        obtain ⟨mo, mc, rfl, hm2, hm3, hm4, hm5⟩ := hrm.open
        obtain ⟨uo, uc, rfl, hu2, hu3, hu4, hu5⟩ := hu7.vec.open
        have hpl : pm.length = n := by
          have := congrArg List.length hpm
          simp at this; omega
        rw [hpl] at hm2 ⊢
        rw [hel] at hu2 ⊢
        have HEF := hid (HE.out.trans hw7)
        have HM4 := hid hm4
        have HM5 := hid hm5
        have HU4 := hid hu4
        have HU5 := hid hu5
        have HM1 := hid hpl
        have HEL := hid hel
        have HPM := hid hpm
        have HBM := hid hBm
        clear hl7 hu7 hw7 hrm hm4 hm5 hu4 hu5 hpl hel hpm hBm HRALL HBP HO2
        rcases he with he | he
        · subst he
          go_wp2
          go_loopw [81] (fun i wr => ∃ k3 : Nat, k3 ≤ n ∧ i = .int .i64 k3 ∧ Hid (Ext w7 wr)) (fun i _ => n - (intOf i).toNat)
          case atStart => exact ⟨0, by omega, rfl, Ext.refl _⟩
          case round =>
            obtain ⟨k3, hk3, rfl, HE3⟩ := hrel
            by_cases hlt3 : k3 < n
            · have hkm : k3 < pm.length := by rw [HM1.out]; exact hlt3
              have hkq : k3 < q.length := by rw [HQL.out]; omega
              have hke : k3 < (fends 0 ((l.take n).map recFr)).length := by rw [HEL.out]; exact hlt3
              obtain ⟨p7, rfl⟩ := HM4.out (by omega)
              obtain ⟨p0, rfl⟩ := HC3.out (by omega)
              obtain ⟨pe, rfl⟩ := HU4.out (by omega)
              have hsame : pm[k3].1 = q[k3].1 := by
                have h1 : (pm.map (·.1))[k3]? = ((q.map (·.1)).take n)[k3]? := by rw [HPM.out, HQ.out]
                rw [List.getElem?_take, if_pos hlt3, List.getElem?_map, List.getElem?_map, List.getElem?_eq_getElem hkm, List.getElem?_eq_getElem hkq] at h1
                simpa using h1
              have d0 := cell_first (HE3.out.cell (HM5.out p7 rfl k3 hkm 0 _ rfl))
              have d1 := cell_next (HE3.out.cell (HM5.out p7 rfl k3 hkm 1 _ rfl)) (by decide)
              have d2 := cell_next (HE3.out.cell (HM5.out p7 rfl k3 hkm 2 _ rfl)) (by decide)
              have e0 := cell_first ((HEF.out.trans HE3.out).cell (HC.out p0 rfl k3 hkq 0 _ rfl))
              have e1' := cell_next ((HEF.out.trans HE3.out).cell (HC.out p0 rfl k3 hkq 1 _ rfl)) (by decide)
              have e2' := cell_next ((HEF.out.trans HE3.out).cell (HC.out p0 rfl k3 hkq 2 _ rfl)) (by decide)
              have f0 := HE3.out.cell (HU5.out pe rfl k3 hke)
              have hfle : (fends 0 ((l.take n).map recFr))[k3] ≤ at_ := by
                have := fends_le ((l.take n).map recFr) 0 _ (List.getElem_mem hke)
                rw [Nat.zero_add, HFC2.out] at this; exact this
              obtain ⟨E, hE0⟩ : ∃ E, (fends 0 ((l.take n).map recFr))[k3] = E := ⟨_, rfl⟩
              rw [hE0] at f0 hfle
              have hBq := HBM.out _ (List.getElem_mem hkm)
              have hBc := HB.out _ (List.getElem_mem hkq)
              rw [← hsame] at e0 e2' hBc
              obtain ⟨X, hX0⟩ : ∃ X, pm[k3].1 = X := ⟨_, rfl⟩
              obtain ⟨U, hU0⟩ : ∃ U, q[k3].2 = U := ⟨_, rfl⟩
              obtain ⟨V, hV0⟩ : ∃ V, pm[k3].2 = V := ⟨_, rfl⟩
              rw [hX0] at d0 d2 e0 e2' hBq hBc
              rw [hV0] at d1 hBq
              rw [hU0] at e1' hBc
              obtain ⟨U1, U3, rfl, -⟩ := hBc.open
              obtain ⟨V1, V3, rfl, -⟩ := hBq.open
              have BU := hid (hBc.ext (HEF.out.trans HE3.out))
              have BV := hid (hBq.ext HE3.out)
              have HSB := hid (show recSame X X = true by simp [recSame])
              have hxr := Ext.alloc wr (.cells #[.int .i64 X.kind, .slice V1 X.n.length V3, .string (str X.text)] 24)
              have hY := blk3 (heap_alloc_new wr (.cells #[.int .i64 X.kind, .slice V1 X.n.length V3, .string (str X.text)] 24))
              have E0b := hid (hxr.cell e0)
              have E1b := hid (hxr.cell e1')
              have E2b := hid (hxr.cell e2')
              have F0b := hid (hxr.cell f0)
              have HY := hid hY
              have BUb := hid (BU.out.ext hxr)
              have BVb := hid (BV.out.ext hxr)
              have HEb := hid (HE3.out.trans hxr)
              have hI : (k3 : Int) < (n : Int) := by omega
              have hI1 : (k3 : Int) < (l.length : Int) := by omega
              have hI0 : (0 : Int) ≤ k3 := by omega
              have hgE : decide (c < E) = false := by simp; omega
              clear hsame hX0 hU0 hV0 hBq hBc e0 e1' e2' f0 BU BV hE0 hxr hY
              go_wp2_with fail
              clear d0 d1 d2
              generalize wr.heap.size = br at *
              generalize wr.alloc (.cells #[.int .i64 X.kind, .slice V1 X.n.length V3, .string (str X.text)] 24) = W9 at *
              refine Par.wp_region_par (l := [_, _, _, _, _, _, _, _, _, _, _, _, _, _, _]) rfl Ext (Par.VL [Par.EQ (rv X (.slice V1 X.n.length V3)), Par.EQ (Value.slice (some p0) l.length cap), Par.EQ (Value.int IntKind.i64 (k3 : Int)), Par.EQ (Value.pointer (some (p0.add (k3 * 3)))), Par.EQ (rv X (.slice U1 X.n.length U3)), Par.EQ (Value.bool true), Par.EQ (Value.bool false), Par.EQ (Value.bool false), Par.EQ (Value.slice (some pe) n uc), Par.EQ (Value.int IntKind.i64 (k3 : Int)), Par.EQ (Value.pointer (some (pe.add k3))), Par.EQ (Value.int IntKind.i64 (E : Int)), Par.EQ (Value.int IntKind.i64 (c : Int)), Par.EQ (Value.bool false), Par.EQ (Value.bool false)]) (by kernel_rfl) Ext.refl (fun _ _ _ h1 h2 => Ext.trans h1 h2) (Ext.draw _) (Par.VL_stab ?_) ?_ ?_
              · simp only [List.forall_mem_cons, List.not_mem_nil, false_implies, implies_true, and_true]
                refine ⟨fun _ _ _ _ h => h, fun _ _ _ _ h => h, fun _ _ _ _ h => h, fun _ _ _ _ h => h, fun _ _ _ _ h => h, fun _ _ _ _ h => h, fun _ _ _ _ h => h, fun _ _ _ _ h => h, fun _ _ _ _ h => h, fun _ _ _ _ h => h, fun _ _ _ _ h => h, fun _ _ _ _ h => h, fun _ _ _ _ h => h, fun _ _ _ _ h => h, fun _ _ _ _ h => h⟩
              · refine ⟨⟨fun _ _ => trivial, fun ρ w' hX hG hk => ?_⟩, ?_⟩
                · obtain ⟨k0, -⟩ := hk
                  have e0 : ρ (.tmp 15) = Value.pointer (some ⟨br, 0, none⟩) := k0
                  clear k0
                  refine Par.val_k fun K hK => ?_
                  unfold Par.val
                  (have c0 := hX.cell HY.out.1; have c1 := hX.cell HY.out.2.1; have c2 := hX.cell HY.out.2.2; go_simp; exact hK _ _ ⟨Ext.refl _, rfl⟩)
                refine ⟨⟨fun _ _ => trivial, fun ρ w' hX hG hk => ?_⟩, ?_⟩
                · exact Par.val_of_run rfl ⟨Ext.refl _, hk.1⟩
                refine ⟨⟨fun _ _ => trivial, fun ρ w' hX hG hk => ?_⟩, ?_⟩
                · exact Par.val_of_run rfl ⟨Ext.refl _, hk.1⟩
                refine ⟨⟨fun _ _ => trivial, fun ρ w' hX hG hk => ?_⟩, ?_⟩
                · obtain ⟨k0, k1, -⟩ := hk
                  have e0 : ρ (.tmp 87) = Value.slice (some p0) l.length cap := k0
                  have e1 : ρ (.tmp 88) = Value.int IntKind.i64 (k3 : Int) := k1
                  clear k0 k1
                  refine Par.val_k fun K hK => ?_
                  unfold Par.val
                  (go_simp; exact hK _ _ ⟨Ext.refl _, rfl⟩)
                refine ⟨⟨fun _ _ => trivial, fun ρ w' hX hG hk => ?_⟩, ?_⟩
                · obtain ⟨k0, -⟩ := hk
                  have e0 : ρ (.tmp 89) = Value.pointer (some (p0.add (k3 * 3))) := k0
                  clear k0
                  refine Par.val_k fun K hK => ?_
                  unfold Par.val
                  (have c0 := hX.cell E0b.out; have c1 := hX.cell E1b.out; have c2 := hX.cell E2b.out; go_simp; exact hK _ _ ⟨Ext.refl _, rfl⟩)
                refine ⟨⟨fun _ _ => trivial, fun ρ w' hX hG hk => ?_⟩, ?_⟩
                · obtain ⟨k0, k1, k2, -⟩ := hk
                  have e0 := k0
                  have e1 : ρ (.tmp 86) = rv X (.slice V1 X.n.length V3) := k1
                  have e2 : ρ (.tmp 90) = rv X (.slice U1 X.n.length U3) := k2
                  clear k0 k1 k2
                  refine Par.val_k fun K hK => ?_
                  unfold Par.val
                  refine Par.val_call Tryd.func18 (by kernel_rfl) rfl e0 ?_
                  simp only [List.map_toArray, List.map_cons, List.map_nil, e1, e2]
                  refine (same5_any X X _ _ _ (BVb.out.ext hX) (BUb.out.ext hX)).mono ?_
                  rintro e w2 ⟨rfl, h2⟩
                  exact ⟨_, rfl, hK _ _ ⟨h2, (congrArg Value.bool HSB.out)⟩⟩
                refine ⟨⟨fun _ _ => trivial, fun ρ w' hX hG hk => ?_⟩, ?_⟩
                · obtain ⟨k0, -⟩ := hk
                  have e0 : ρ (.tmp 91) = Value.bool true := k0
                  clear k0
                  refine Par.val_k fun K hK => ?_
                  unfold Par.val
                  (go_simp; exact hK _ _ ⟨Ext.refl _, rfl⟩)
                refine ⟨⟨fun _ _ => trivial, fun ρ w' hX hG hk => ?_⟩, ?_⟩
                · obtain ⟨k0, -⟩ := hk
                  have e0 : ρ (.tmp 92) = Value.bool false := k0
                  clear k0
                  refine Par.val_k fun K hK => ?_
                  unfold Par.val
                  (go_simp; exact hK _ _ ⟨Ext.refl _, rfl⟩)
                refine ⟨⟨fun _ _ u hu => .inl hu, fun ρ w' hX hG hk => ?_⟩, ?_⟩
                · exact Par.val_of_run rfl ⟨Ext.refl _, hk.1⟩
                refine ⟨⟨fun _ _ u hu => .inl hu, fun ρ w' hX hG hk => ?_⟩, ?_⟩
                · exact Par.val_of_run rfl ⟨Ext.refl _, hk.1⟩
                refine ⟨⟨fun _ _ u hu => .inl hu, fun ρ w' hX hG hk => ?_⟩, ?_⟩
                · obtain ⟨k0, k1, -⟩ := hk
                  have e0 : ρ (.tmp 94) = Value.slice (some pe) n uc := k0
                  have e1 : ρ (.tmp 95) = Value.int IntKind.i64 (k3 : Int) := k1
                  clear k0 k1
                  refine Par.val_k fun K hK => ?_
                  unfold Par.val
                  (go_simp; exact hK _ _ ⟨Ext.refl _, rfl⟩)
                refine ⟨⟨fun _ _ u hu => .inl hu, fun ρ w' hX hG hk => ?_⟩, ?_⟩
                · obtain ⟨k0, -⟩ := hk
                  have e0 : ρ (.tmp 96) = Value.pointer (some (pe.add k3)) := k0
                  clear k0
                  refine Par.val_k fun K hK => ?_
                  unfold Par.val
                  (have c0 := hX.cell F0b.out; go_simp; exact hK _ _ ⟨Ext.refl _, rfl⟩)
                refine ⟨⟨fun _ _ u hu => .inl hu, fun ρ w' hX hG hk => ?_⟩, ?_⟩
                · exact Par.val_of_run rfl ⟨Ext.refl _, hk.1⟩
                refine ⟨⟨fun _ _ u hu => .inl hu, fun ρ w' hX hG hk => ?_⟩, ?_⟩
                · obtain ⟨k0, k1, -⟩ := hk
                  have e0 : ρ (.tmp 97) = Value.int IntKind.i64 (E : Int) := k0
                  have e1 : ρ (.tmp 98) = Value.int IntKind.i64 (c : Int) := k1
                  clear k0 k1
                  refine Par.val_k fun K hK => ?_
                  unfold Par.val
                  (go_simp; exact hK _ _ ⟨Ext.refl _, rfl⟩)
                refine ⟨⟨fun _ _ => trivial, fun ρ w' hX hG hk => ?_⟩, ?_⟩
                · obtain ⟨k0, k1, k2, -⟩ := hk
                  have e0 : ρ (.tmp 93) = Value.bool false := k0
                  have e1 : ρ (Operand.const (Value.bool true)) = (Value.bool true) := k1
                  have e2 : ρ (.tmp 99) = Value.bool false := k2
                  clear k0 k1 k2
                  refine Par.val_k fun K hK => ?_
                  unfold Par.val
                  (go_simp; exact hK _ _ ⟨Ext.refl _, rfl⟩)
                trivial
              intro a' w' inv
              have hX := inv.ext
              have q86 : a'.tmps.getD 86 undef = rv X (.slice V1 X.n.length V3) := inv.done 0 _ 86 rfl rfl rfl
              have q87 : a'.tmps.getD 87 undef = Value.slice (some p0) l.length cap := inv.done 1 _ 87 rfl rfl rfl
              have q88 : a'.tmps.getD 88 undef = Value.int IntKind.i64 (k3 : Int) := inv.done 2 _ 88 rfl rfl rfl
              have q89 : a'.tmps.getD 89 undef = Value.pointer (some (p0.add (k3 * 3))) := inv.done 3 _ 89 rfl rfl rfl
              have q90 : a'.tmps.getD 90 undef = rv X (.slice U1 X.n.length U3) := inv.done 4 _ 90 rfl rfl rfl
              have q91 : a'.tmps.getD 91 undef = Value.bool true := inv.done 5 _ 91 rfl rfl rfl
              have q92 : a'.tmps.getD 92 undef = Value.bool false := inv.done 6 _ 92 rfl rfl rfl
              have q93 : a'.tmps.getD 93 undef = Value.bool false := inv.done 7 _ 93 rfl rfl rfl
              have q94 : a'.tmps.getD 94 undef = Value.slice (some pe) n uc := inv.done 8 _ 94 rfl rfl rfl
              have q95 : a'.tmps.getD 95 undef = Value.int IntKind.i64 (k3 : Int) := inv.done 9 _ 95 rfl rfl rfl
              have q96 : a'.tmps.getD 96 undef = Value.pointer (some (pe.add k3)) := inv.done 10 _ 96 rfl rfl rfl
              have q97 : a'.tmps.getD 97 undef = Value.int IntKind.i64 (E : Int) := inv.done 11 _ 97 rfl rfl rfl
              have q98 : a'.tmps.getD 98 undef = Value.int IntKind.i64 (c : Int) := inv.done 12 _ 98 rfl rfl rfl
              have q99 : a'.tmps.getD 99 undef = Value.bool false := inv.done 13 _ 99 rfl rfl rfl
              have q100 : a'.tmps.getD 100 undef = Value.bool false := inv.done 14 _ 100 rfl rfl rfl
              clear inv
              simp only [List.filterMap_cons, List.filterMap_nil, Par.putAll, Act.put, List.setIfInBounds_toArray, List.set_cons_succ, List.set_cons_zero, q86, q87, q88, q89, q90, q91, q92, q93, q94, q95, q96, q97, q98, q99, q100]
              clear q86 q87 q88 q89 q90 q91 q92 q93 q94 q95 q96 q97 q98 q99 q100
              clear a'
              have HEc := HEb.out.trans hX
              go_wp2
              go_roundw
              case rel => exact ⟨k3 + 1, by omega, by go_num, HEc⟩
              case measure => simp [intOf]; omega
            · obtain rfl : k3 = n := by omega
              have hEz := HEF.out.trans HE3.out
              by_cases hz : k3 = 0
              · have hat0 : at_ = 0 := by rw [← HFC2.out, hz]; simp [fcat]
                have hgt : decide (0 < k3) = false := by simp [hz]
                have hgi : decide ((0 : Int) < k3) = false := by simp [hz]
                have hfin : ((0 : Int) == (c : Int)) = true := by
                  first | rfl | (rw [beq_iff_eq]; have := HEC.out.1 (by simp); omega)
                clear hat0 hz
                go_wp2
                go_ret
                exact ⟨rfl, hEz⟩
              · have hgt : decide (0 < k3) = true := by simp; omega
                have hgi : decide ((0 : Int) < k3) = true := by simp; omega
                obtain ⟨pe, rfl⟩ := HU4.out (by omega)
                have hke : k3 - 1 < (fends 0 ((l.take k3).map recFr)).length := by rw [HEL.out]; omega
                have f0 := HE3.out.cell (HU5.out pe rfl (k3 - 1) hke)
                have hlast : (fends 0 ((l.take k3).map recFr))[k3 - 1] = at_ := by
                  rw [fends_at, Nat.zero_add, ← HFC2.out, List.take_of_length_le]
                  simp; omega
                rw [hlast] at f0
                have hi : ((k3 : Int) - 1) = ((k3 - 1 : Nat) : Int) := by omega
                have hfin : ((at_ : Int) == (c : Int)) = true := by
                  rw [beq_iff_eq]; have := HEC.out.1 (by simp); omega
                clear hlast
                skip
                go_wp2
                go_ret
                exact ⟨rfl, hEz⟩
        · subst he
          go_wp2
          go_loopw [81] (fun i wr => ∃ k3 : Nat, k3 ≤ n ∧ i = .int .i64 k3 ∧ Hid (Ext w7 wr)) (fun i _ => n - (intOf i).toNat)
          case atStart => exact ⟨0, by omega, rfl, Ext.refl _⟩
          case round =>
            obtain ⟨k3, hk3, rfl, HE3⟩ := hrel
            by_cases hlt3 : k3 < n
            · have hkm : k3 < pm.length := by rw [HM1.out]; exact hlt3
              have hkq : k3 < q.length := by rw [HQL.out]; omega
              have hke : k3 < (fends 0 ((l.take n).map recFr)).length := by rw [HEL.out]; exact hlt3
              obtain ⟨p7, rfl⟩ := HM4.out (by omega)
              obtain ⟨p0, rfl⟩ := HC3.out (by omega)
              obtain ⟨pe, rfl⟩ := HU4.out (by omega)
              have hsame : pm[k3].1 = q[k3].1 := by
                have h1 : (pm.map (·.1))[k3]? = ((q.map (·.1)).take n)[k3]? := by rw [HPM.out, HQ.out]
                rw [List.getElem?_take, if_pos hlt3, List.getElem?_map, List.getElem?_map, List.getElem?_eq_getElem hkm, List.getElem?_eq_getElem hkq] at h1
                simpa using h1
              have d0 := cell_first (HE3.out.cell (HM5.out p7 rfl k3 hkm 0 _ rfl))
              have d1 := cell_next (HE3.out.cell (HM5.out p7 rfl k3 hkm 1 _ rfl)) (by decide)
              have d2 := cell_next (HE3.out.cell (HM5.out p7 rfl k3 hkm 2 _ rfl)) (by decide)
              have e0 := cell_first ((HEF.out.trans HE3.out).cell (HC.out p0 rfl k3 hkq 0 _ rfl))
              have e1' := cell_next ((HEF.out.trans HE3.out).cell (HC.out p0 rfl k3 hkq 1 _ rfl)) (by decide)
              have e2' := cell_next ((HEF.out.trans HE3.out).cell (HC.out p0 rfl k3 hkq 2 _ rfl)) (by decide)
              have f0 := HE3.out.cell (HU5.out pe rfl k3 hke)
              have hfle : (fends 0 ((l.take n).map recFr))[k3] ≤ at_ := by
                have := fends_le ((l.take n).map recFr) 0 _ (List.getElem_mem hke)
                rw [Nat.zero_add, HFC2.out] at this; exact this
              obtain ⟨E, hE0⟩ : ∃ E, (fends 0 ((l.take n).map recFr))[k3] = E := ⟨_, rfl⟩
              rw [hE0] at f0 hfle
              have hBq := HBM.out _ (List.getElem_mem hkm)
              have hBc := HB.out _ (List.getElem_mem hkq)
              rw [← hsame] at e0 e2' hBc
              obtain ⟨X, hX0⟩ : ∃ X, pm[k3].1 = X := ⟨_, rfl⟩
              obtain ⟨U, hU0⟩ : ∃ U, q[k3].2 = U := ⟨_, rfl⟩
              obtain ⟨V, hV0⟩ : ∃ V, pm[k3].2 = V := ⟨_, rfl⟩
              rw [hX0] at d0 d2 e0 e2' hBq hBc
              rw [hV0] at d1 hBq
              rw [hU0] at e1' hBc
              obtain ⟨U1, U3, rfl, -⟩ := hBc.open
              obtain ⟨V1, V3, rfl, -⟩ := hBq.open
              have BU := hid (hBc.ext (HEF.out.trans HE3.out))
              have BV := hid (hBq.ext HE3.out)
              have HSB := hid (show recSame X X = true by simp [recSame])
              have hxr := Ext.alloc wr (.cells #[.int .i64 X.kind, .slice V1 X.n.length V3, .string (str X.text)] 24)
              have hY := blk3 (heap_alloc_new wr (.cells #[.int .i64 X.kind, .slice V1 X.n.length V3, .string (str X.text)] 24))
              have E0b := hid (hxr.cell e0)
              have E1b := hid (hxr.cell e1')
              have E2b := hid (hxr.cell e2')
              have F0b := hid (hxr.cell f0)
              have HY := hid hY
              have BUb := hid (BU.out.ext hxr)
              have BVb := hid (BV.out.ext hxr)
              have HEb := hid (HE3.out.trans hxr)
              have hI : (k3 : Int) < (n : Int) := by omega
              have hI1 : (k3 : Int) < (l.length : Int) := by omega
              have hI0 : (0 : Int) ≤ k3 := by omega
              have hgE : decide (c < E) = false := by simp; omega
              clear hsame hX0 hU0 hV0 hBq hBc e0 e1' e2' f0 BU BV hE0 hxr hY
              go_wp2_with fail
              clear d0 d1 d2
              generalize wr.heap.size = br at *
              generalize wr.alloc (.cells #[.int .i64 X.kind, .slice V1 X.n.length V3, .string (str X.text)] 24) = W9 at *
              refine Par.wp_region_par (l := [_, _, _, _, _, _, _, _, _, _, _, _, _, _, _]) rfl Ext (Par.VL [Par.EQ (rv X (.slice V1 X.n.length V3)), Par.EQ (Value.slice (some p0) l.length cap), Par.EQ (Value.int IntKind.i64 (k3 : Int)), Par.EQ (Value.pointer (some (p0.add (k3 * 3)))), Par.EQ (rv X (.slice U1 X.n.length U3)), Par.EQ (Value.bool true), Par.EQ (Value.bool false), Par.EQ (Value.bool false), Par.EQ (Value.slice (some pe) n uc), Par.EQ (Value.int IntKind.i64 (k3 : Int)), Par.EQ (Value.pointer (some (pe.add k3))), Par.EQ (Value.int IntKind.i64 (E : Int)), Par.EQ (Value.int IntKind.i64 (c : Int)), Par.EQ (Value.bool false), Par.EQ (Value.bool false)]) (by kernel_rfl) Ext.refl (fun _ _ _ h1 h2 => Ext.trans h1 h2) (Ext.draw _) (Par.VL_stab ?_) ?_ ?_
              · simp only [List.forall_mem_cons, List.not_mem_nil, false_implies, implies_true, and_true]
                refine ⟨fun _ _ _ _ h => h, fun _ _ _ _ h => h, fun _ _ _ _ h => h, fun _ _ _ _ h => h, fun _ _ _ _ h => h, fun _ _ _ _ h => h, fun _ _ _ _ h => h, fun _ _ _ _ h => h, fun _ _ _ _ h => h, fun _ _ _ _ h => h, fun _ _ _ _ h => h, fun _ _ _ _ h => h, fun _ _ _ _ h => h, fun _ _ _ _ h => h, fun _ _ _ _ h => h⟩
              · refine ⟨⟨fun _ _ => trivial, fun ρ w' hX hG hk => ?_⟩, ?_⟩
                · obtain ⟨k0, -⟩ := hk
                  have e0 : ρ (.tmp 15) = Value.pointer (some ⟨br, 0, none⟩) := k0
                  clear k0
                  refine Par.val_k fun K hK => ?_
                  unfold Par.val
                  (have c0 := hX.cell HY.out.1; have c1 := hX.cell HY.out.2.1; have c2 := hX.cell HY.out.2.2; go_simp; exact hK _ _ ⟨Ext.refl _, rfl⟩)
                refine ⟨⟨fun _ _ => trivial, fun ρ w' hX hG hk => ?_⟩, ?_⟩
                · exact Par.val_of_run rfl ⟨Ext.refl _, hk.1⟩
                refine ⟨⟨fun _ _ => trivial, fun ρ w' hX hG hk => ?_⟩, ?_⟩
                · exact Par.val_of_run rfl ⟨Ext.refl _, hk.1⟩
                refine ⟨⟨fun _ _ => trivial, fun ρ w' hX hG hk => ?_⟩, ?_⟩
                · obtain ⟨k0, k1, -⟩ := hk
                  have e0 : ρ (.tmp 87) = Value.slice (some p0) l.length cap := k0
                  have e1 : ρ (.tmp 88) = Value.int IntKind.i64 (k3 : Int) := k1
                  clear k0 k1
                  refine Par.val_k fun K hK => ?_
                  unfold Par.val
                  (go_simp; exact hK _ _ ⟨Ext.refl _, rfl⟩)
                refine ⟨⟨fun _ _ => trivial, fun ρ w' hX hG hk => ?_⟩, ?_⟩
                · obtain ⟨k0, -⟩ := hk
                  have e0 : ρ (.tmp 89) = Value.pointer (some (p0.add (k3 * 3))) := k0
                  clear k0
                  refine Par.val_k fun K hK => ?_
                  unfold Par.val
                  (have c0 := hX.cell E0b.out; have c1 := hX.cell E1b.out; have c2 := hX.cell E2b.out; go_simp; exact hK _ _ ⟨Ext.refl _, rfl⟩)
                refine ⟨⟨fun _ _ => trivial, fun ρ w' hX hG hk => ?_⟩, ?_⟩
                · obtain ⟨k0, k1, k2, -⟩ := hk
                  have e0 := k0
                  have e1 : ρ (.tmp 86) = rv X (.slice V1 X.n.length V3) := k1
                  have e2 : ρ (.tmp 90) = rv X (.slice U1 X.n.length U3) := k2
                  clear k0 k1 k2
                  refine Par.val_k fun K hK => ?_
                  unfold Par.val
                  refine Par.val_call Tryd.func18 (by kernel_rfl) rfl e0 ?_
                  simp only [List.map_toArray, List.map_cons, List.map_nil, e1, e2]
                  refine (same5_any X X _ _ _ (BVb.out.ext hX) (BUb.out.ext hX)).mono ?_
                  rintro e w2 ⟨rfl, h2⟩
                  exact ⟨_, rfl, hK _ _ ⟨h2, (congrArg Value.bool HSB.out)⟩⟩
                refine ⟨⟨fun _ _ => trivial, fun ρ w' hX hG hk => ?_⟩, ?_⟩
                · obtain ⟨k0, -⟩ := hk
                  have e0 : ρ (.tmp 91) = Value.bool true := k0
                  clear k0
                  refine Par.val_k fun K hK => ?_
                  unfold Par.val
                  (go_simp; exact hK _ _ ⟨Ext.refl _, rfl⟩)
                refine ⟨⟨fun _ _ => trivial, fun ρ w' hX hG hk => ?_⟩, ?_⟩
                · obtain ⟨k0, -⟩ := hk
                  have e0 : ρ (.tmp 92) = Value.bool false := k0
                  clear k0
                  refine Par.val_k fun K hK => ?_
                  unfold Par.val
                  (go_simp; exact hK _ _ ⟨Ext.refl _, rfl⟩)
                refine ⟨⟨fun _ _ u hu => .inl hu, fun ρ w' hX hG hk => ?_⟩, ?_⟩
                · exact Par.val_of_run rfl ⟨Ext.refl _, hk.1⟩
                refine ⟨⟨fun _ _ u hu => .inl hu, fun ρ w' hX hG hk => ?_⟩, ?_⟩
                · exact Par.val_of_run rfl ⟨Ext.refl _, hk.1⟩
                refine ⟨⟨fun _ _ u hu => .inl hu, fun ρ w' hX hG hk => ?_⟩, ?_⟩
                · obtain ⟨k0, k1, -⟩ := hk
                  have e0 : ρ (.tmp 94) = Value.slice (some pe) n uc := k0
                  have e1 : ρ (.tmp 95) = Value.int IntKind.i64 (k3 : Int) := k1
                  clear k0 k1
                  refine Par.val_k fun K hK => ?_
                  unfold Par.val
                  (go_simp; exact hK _ _ ⟨Ext.refl _, rfl⟩)
                refine ⟨⟨fun _ _ u hu => .inl hu, fun ρ w' hX hG hk => ?_⟩, ?_⟩
                · obtain ⟨k0, -⟩ := hk
                  have e0 : ρ (.tmp 96) = Value.pointer (some (pe.add k3)) := k0
                  clear k0
                  refine Par.val_k fun K hK => ?_
                  unfold Par.val
                  (have c0 := hX.cell F0b.out; go_simp; exact hK _ _ ⟨Ext.refl _, rfl⟩)
                refine ⟨⟨fun _ _ u hu => .inl hu, fun ρ w' hX hG hk => ?_⟩, ?_⟩
                · exact Par.val_of_run rfl ⟨Ext.refl _, hk.1⟩
                refine ⟨⟨fun _ _ u hu => .inl hu, fun ρ w' hX hG hk => ?_⟩, ?_⟩
                · obtain ⟨k0, k1, -⟩ := hk
                  have e0 : ρ (.tmp 97) = Value.int IntKind.i64 (E : Int) := k0
                  have e1 : ρ (.tmp 98) = Value.int IntKind.i64 (c : Int) := k1
                  clear k0 k1
                  refine Par.val_k fun K hK => ?_
                  unfold Par.val
                  (go_simp; exact hK _ _ ⟨Ext.refl _, rfl⟩)
                refine ⟨⟨fun _ _ => trivial, fun ρ w' hX hG hk => ?_⟩, ?_⟩
                · obtain ⟨k0, k1, k2, -⟩ := hk
                  have e0 : ρ (.tmp 93) = Value.bool false := k0
                  have e1 : ρ (Operand.const (Value.bool true)) = (Value.bool true) := k1
                  have e2 : ρ (.tmp 99) = Value.bool false := k2
                  clear k0 k1 k2
                  refine Par.val_k fun K hK => ?_
                  unfold Par.val
                  (go_simp; exact hK _ _ ⟨Ext.refl _, rfl⟩)
                trivial
              intro a' w' inv
              have hX := inv.ext
              have q86 : a'.tmps.getD 86 undef = rv X (.slice V1 X.n.length V3) := inv.done 0 _ 86 rfl rfl rfl
              have q87 : a'.tmps.getD 87 undef = Value.slice (some p0) l.length cap := inv.done 1 _ 87 rfl rfl rfl
              have q88 : a'.tmps.getD 88 undef = Value.int IntKind.i64 (k3 : Int) := inv.done 2 _ 88 rfl rfl rfl
              have q89 : a'.tmps.getD 89 undef = Value.pointer (some (p0.add (k3 * 3))) := inv.done 3 _ 89 rfl rfl rfl
              have q90 : a'.tmps.getD 90 undef = rv X (.slice U1 X.n.length U3) := inv.done 4 _ 90 rfl rfl rfl
              have q91 : a'.tmps.getD 91 undef = Value.bool true := inv.done 5 _ 91 rfl rfl rfl
              have q92 : a'.tmps.getD 92 undef = Value.bool false := inv.done 6 _ 92 rfl rfl rfl
              have q93 : a'.tmps.getD 93 undef = Value.bool false := inv.done 7 _ 93 rfl rfl rfl
              have q94 : a'.tmps.getD 94 undef = Value.slice (some pe) n uc := inv.done 8 _ 94 rfl rfl rfl
              have q95 : a'.tmps.getD 95 undef = Value.int IntKind.i64 (k3 : Int) := inv.done 9 _ 95 rfl rfl rfl
              have q96 : a'.tmps.getD 96 undef = Value.pointer (some (pe.add k3)) := inv.done 10 _ 96 rfl rfl rfl
              have q97 : a'.tmps.getD 97 undef = Value.int IntKind.i64 (E : Int) := inv.done 11 _ 97 rfl rfl rfl
              have q98 : a'.tmps.getD 98 undef = Value.int IntKind.i64 (c : Int) := inv.done 12 _ 98 rfl rfl rfl
              have q99 : a'.tmps.getD 99 undef = Value.bool false := inv.done 13 _ 99 rfl rfl rfl
              have q100 : a'.tmps.getD 100 undef = Value.bool false := inv.done 14 _ 100 rfl rfl rfl
              clear inv
              simp only [List.filterMap_cons, List.filterMap_nil, Par.putAll, Act.put, List.setIfInBounds_toArray, List.set_cons_succ, List.set_cons_zero, q86, q87, q88, q89, q90, q91, q92, q93, q94, q95, q96, q97, q98, q99, q100]
              clear q86 q87 q88 q89 q90 q91 q92 q93 q94 q95 q96 q97 q98 q99 q100
              clear a'
              have HEc := HEb.out.trans hX
              go_wp2
              go_roundw
              case rel => exact ⟨k3 + 1, by omega, by go_num, HEc⟩
              case measure => simp [intOf]; omega
            · obtain rfl : k3 = n := by omega
              have hEz := HEF.out.trans HE3.out
              by_cases hz : k3 = 0
              · have hat0 : at_ = 0 := by rw [← HFC2.out, hz]; simp [fcat]
                have hgt : decide (0 < k3) = false := by simp [hz]
                have hgi : decide ((0 : Int) < k3) = false := by simp [hz]
                have hfin : ((0 : Int) == (c : Int)) = false := by
                  rw [beq_eq_false_iff_ne]; intro h; exact absurd (HEC.out.2 (by omega)) (by decide)
                clear hat0 hz
                go_wp2
                go_ret
                exact ⟨rfl, hEz⟩
              · have hgt : decide (0 < k3) = true := by simp; omega
                have hgi : decide ((0 : Int) < k3) = true := by simp; omega
                obtain ⟨pe, rfl⟩ := HU4.out (by omega)
                have hke : k3 - 1 < (fends 0 ((l.take k3).map recFr)).length := by rw [HEL.out]; omega
                have f0 := HE3.out.cell (HU5.out pe rfl (k3 - 1) hke)
                have hlast : (fends 0 ((l.take k3).map recFr))[k3 - 1] = at_ := by
                  rw [fends_at, Nat.zero_add, ← HFC2.out, List.take_of_length_le]
                  simp; omega
                rw [hlast] at f0
                have hi : ((k3 : Int) - 1) = ((k3 - 1 : Nat) : Int) := by omega
                have hfin : ((at_ : Int) == (c : Int)) = false := by
                  rw [beq_eq_false_iff_ne]; intro h; exact absurd (HEC.out.2 (by omega)) (by decide)
                clear hlast
                skip
                go_wp2
                go_ret
                exact ⟨rfl, hEz⟩
end Go.Proofs.YtafdandnbbbdfaaDoor
