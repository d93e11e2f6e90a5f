/- The statements of layer 4: FrameTorn. -/
import Derived.Test.YtbecahknondmeaaLaw04
import Derived.Test.YtbecahknondmeaaFrmO
import Derived.Test.YtbecahknondmeaaFrmT
import Derived.Test.YtbecahknondmeaaVec
namespace Go.Proofs.Ytbecahknondmeaa
open Go.RowKit Go.Tum Go.Tum.Crc

theorem infoI : (Try.prog.info? 3).map (fun i => (i.zero, i.size, i.bytes)) = some (some (.int .i64 0), 1, 8) := by kernel_rfl
abbrev ends (l : List Fr) : List Int := (fends 0 l).map Int.ofNat

theorem ints_far {w w' : World} {b b' e f : Nat} {u v : Value} {l : List Int} {m : List UInt8} (h : OwV iv w b e v l) (hu : Own w b' f u m) (hne : e ≠ f) (hg : w.grownBy w' u.ownBlock) : OwV iv w' b e v l := rows_far h hu hne hg
theorem bytes_far {w w' : World} {b b' e f : Nat} {u v : Value} {l : List Int} {m : List UInt8} (h : Own w b e v m) (hu : OwV iv w b' f u l) (hne : e ≠ f) (hg : w.grownBy w' u.ownBlock) : Own w' b e v m := rows_far h hu hne hg

set_option maxRecDepth 100000 in
set_option maxHeartbeats 2000000 in
theorem frameTorn_law (v : Value) (l : List Fr) (cut : Int) (w : World) (hb : Frs w v l) (hcut1 : -9223372036854775808 ≤ cut) (hcut2 : cut ≤ 9223372036854775807) :
    Calls Try.prog 5 #[v, .int .i64 cut] w fun e w' => e = .returned (.bool true) ∧ Ext w w' := by
  obtain ⟨q, hq, hr, hB⟩ := hb
  obtain ⟨ao, cap, rfl, hc1, hc2, hc3, hcell⟩ := hr.open
  have hql : q.length = l.length := by rw [← hq]; simp
  rw [hql] at hc1 ⊢
  have HQ := hid hq
  have HQL := hid hql
  have HC3 := hid hc3
  have HC := hid hcell
  have HB := hid hB
  clear hr hcell hB hc3 hq hql
  by_cases h1 : 6 < l.length
  · have hd : decide (6 < (l.length : Int)) = true := by simp; omega
    go_enter Try.func5, Try.ntmps5
    go_wp2_with fail
    refine (awake_any _).mono ?_
    rintro e w1 ⟨rfl, hw1⟩
    go_wp2
    go_ret
    exact ⟨rfl, hw1⟩
  have hd : decide (6 < (l.length : Int)) = false := by simp; omega
  go_enter Try.func5, Try.ntmps5
  go_wp2_with fail
  refine (awake_any _).mono ?_
  rintro e w1 ⟨rfl, hw1⟩
  have HW1 := hid hw1
  clear hw1
  go_wp2
  go_loopw [5, 6, 27] (fun bo eo i wr => ∃ (k : Nat) (b1 : Option Addr) (bc : Nat) (e1 : Option Addr) (ec : Nat), k ≤ l.length ∧ i = .int .i64 k ∧ bo = .slice b1 (fcat (l.take k)).length bc ∧ eo = .slice e1 k ec ∧
      Hid (Own wr w.heap.size 5 (.slice b1 (fcat (l.take k)).length bc) (fcat (l.take k))) ∧ Hid (OwV iv wr w.heap.size 3 (.slice e1 k ec) (ends (l.take k))) ∧ Hid (∀ x ∈ l.take k, x.body.length ≤ 400) ∧ Hid (Ext w wr)) (fun _ _ i _ => l.length - (intOf i).toNat)
  case atStart => exact ⟨0, none, 0, none, 0, by omega, rfl, by simp [fcat], rfl, hid (by simpa [fcat] using Own.nil _ _ _), OwV.nil _ _ _, hid (by simp), HW1.out⟩
  case round =>
    obtain ⟨k, b1, bc, e1, ec, hk, rfl, rfl, rfl, HO, HEN, HF, HE⟩ := hrel
    by_cases hlt : k < l.length
    · have hkq : k < q.length := by rw [HQL.out]; exact hlt
      obtain ⟨a, rfl⟩ := HC3.out (by omega)
      have hbody := HB.out _ (List.getElem_mem hkq)
      have hx : q[k].1 = l[k] := by
        have h1 : (q.map (·.1))[k]? = l[k]? := by rw [HQ.out]
        rw [List.getElem?_map, List.getElem?_eq_getElem hkq, List.getElem?_eq_getElem hlt] at h1
        simpa using h1
      have c0 := cell_first (HE.out.cell (HC.out a rfl k hkq 0 _ rfl))
      have c1 := cell_next (HE.out.cell (HC.out a rfl k hkq 1 _ rfl)) (by decide)
      rw [hx] at c0 hbody
      have htk : l.take (k + 1) = l.take k ++ [l[k]] := List.take_succ_eq_append_getElem hlt
      obtain ⟨X, hX0⟩ : ∃ X, l[k] = X := ⟨_, rfl⟩
      obtain ⟨U, hU0⟩ : ∃ U, q[k].2 = U := ⟨_, rfl⟩
      rw [hX0] at c0 hbody htk
      rw [hU0] at c1 hbody
      obtain ⟨U1, U3, hU, -, -, -, -⟩ := hbody.open
      subst hU
      have hcat : fcat (l.take (k + 1)) = fcat (l.take k) ++ fbytes X := by rw [htk, fcat_snoc]
      have hlen : (fcat (l.take (k + 1))).length = (fcat (l.take k)).length + (X.body.length + 11) := by rw [hcat, List.length_append, fbytes_length]
      have hends : ends (l.take (k + 1)) = ends (l.take k) ++ [((fcat (l.take (k + 1))).length : Int)] := by
        unfold ends
        rw [htk, fends_snoc, List.map_append, ← htk, hlen]; simp
      have hbnd := fcat_le (l.take k) HF.out
      have hbk : (fcat (l.take k)).length ≤ 3000 := by have := List.length_take_le k l; omega
      have HCAT := hid hcat
      have HLEN := hid hlen
      have HENDS := hid hends
      have HTK := hid htk
      have HBD := hid (hbody.ext HE.out)
      have hsz := HE.out.size
      clear hcat hlen hends htk hbody hX0 hU0 hx hbnd
      go_wp2_with fail
      refine (fbytes_any X _ _ (HBD.out.ext (Ext.alloc _ _))).mono ?_
      rintro e w3 ⟨r, rfl, hr3, hw3⟩
      have hx3 := (Ext.alloc wr _).trans hw3
      by_cases h4 : 400 < X.body.length
      · have hR : fbytesR X = ([], 4) := by unfold fbytesR; rw [if_pos h4]
        rw [hR] at hr3 ⊢
        simp only [] at hr3
        obtain ⟨ro, rc, rfl, -, -, -, -⟩ := hr3.byt.open
        have hEf := HE.out.trans hx3
        clear hr3 hw3 hx3 hR
        go_wp2
        go_ret
        exact ⟨rfl, hEf⟩
      · have hR : fbytesR X = (fbytes X, 0) := by unfold fbytesR; rw [if_neg h4]
        rw [hR] at hr3 ⊢
        simp only [] at hr3
        obtain ⟨ro, rc, rfl, -, -, -, -⟩ := hr3.byt.open
        have HR3 := hid (hr3.byt)
        have HO3 := hid (HO.out.ext hx3)
        have HEN3 := hid (HEN.out.ext hx3)
        have hE3 := HE.out.trans hx3
        have hsz3 := hE3.size
        have hfl := fbytes_length X
        have HFL := hid hfl
        clear hr3 hw3 hx3 hR hfl
        have hN8 : (k + 1) * 8 ≤ 140737488355328 := by omega
        go_wp2_with (first
          | (at_builtin; refine wpList_append_byt rfl (.tmp 38) (.tmp 39) 22 rfl w.heap.size 5 Try.underlying22 info5 rfl HO3.out rfl HR3.out (fcat (l.take (k + 1))).length (by rw [HCAT.out, List.length_append]) (by rw [HLEN.out]; omega) hsz3 ?_; intro ao4 cap4 w4 hown4 hg4 hb4)
          | (at_builtin; refine wpList_append_vec iv_one rfl (.tmp 41) (.tmp 44) 47 rfl w.heap.size 3 Try.underlying47 infoI rfl rfl ((ints_far HEN3.out HO3.out (by decide) hg4).ext (Ext.alloc _ _)) rfl (Vec.one w4 3 _ ((fcat (l.take (k + 1))).length : Int) rfl) (k + 1) (by simp [ends, fends_length]; omega) hN8 (by omega) (Nat.le_trans hsz3 (Nat.le_trans hb4.size (by simp))) ?_; intro ao5 cap5 w5 hown5 hg5 hb5)
          | fail)
        have hown6 := (bytes_far (((show Own w4 w.heap.size 5 (.slice ao4 (fcat (l.take (k + 1))).length cap4) (fcat (l.take k) ++ fbytes X) from hown4)).ext (Ext.alloc _ _)) ((ints_far HEN3.out HO3.out (by decide) hg4).ext (Ext.alloc _ _)) (by decide) hg5)
        have hE5 : Ext w w5 := ((hE3.below hb4).trans (Ext.alloc _ _)).below hb5
        go_roundw
        case rel => exact ⟨k + 1, ao4, cap4, ao5, cap5, by omega, by go_num, rfl, rfl, hid (by rw [HCAT.out] at hown6 ⊢; exact hown6), hid (by rw [HENDS.out]; exact hown5), hid (by
          rw [HTK.out]; intro x hx
          rcases List.mem_append.1 hx with h | h
          · exact HF.out x h
          · simp at h; subst h; omega), hE5⟩
        case measure => simp [intOf]; omega
    · obtain rfl : k = l.length := by omega
      have hO := HO.out
      have hEN := HEN.out
      have hF := HF.out
      rw [List.take_of_length_le (Nat.le_refl _)] at hO hEN hF ⊢
      obtain ⟨B, hB0⟩ : ∃ B, fcat l = B := ⟨_, rfl⟩
      have hbl : B.length ≤ 3000 := by rw [← hB0]; have := fcat_le l hF; omega
      have htorn := fun c hc => fall_torn l c hF hc 0 0
      rw [hB0] at hO htorn ⊢
      simp only [Nat.zero_add] at htorn
      have HO2 := hid hO
      have HEN2 := hid hEN
      have HTORN := hid htorn
      clear HO HEN HF hO hEN hF htorn hB0
      obtain ⟨-, hen1, hen2, hen3, hencell⟩ := HEN2.out.vec.opens
      have HEN3 := hid hen3
      have HCE := hid (show ∀ a, e1 = some a → ∀ j (h : j < (fends 0 l).length), wr.cell? (a.add j) = some (.int .i64 (((fends 0 l)[j] : Nat) : Int)) from fun a ha j h => by
        have := hencell a ha j (by simpa [ends] using h)
        simpa [ends] using this)
      have HFE := hid (fends_length l 0)
      have hbc : B.length ≤ bc := by
        obtain ⟨_, _, e, h, _⟩ := HO2.out.byt.open
        cases e; exact h
      clear hen3 hencell
      by_cases hbig : (B.length : Int) < cut
      · have hneg : ¬ cut < 0 := by omega
        have hdn : decide (cut < 0) = false := by simpa using hneg
        have hnb : ¬ cut ≤ (B.length : Int) := by omega
        go_wp2
        go_loop [11, 12, 54] (fun wh at_ i => ∃ k2 : Nat, k2 ≤ l.length ∧ i = .int .i64 k2 ∧ ∃ s1 s2 : Nat, s1 ≤ k2 ∧ Hid (wholes B.length ((fends 0 l).take k2) (0, 0) = (s1, s2)) ∧ wh = .int .i64 s1 ∧ at_ = .int .i64 s2) (fun _ _ i => l.length - (intOf i).toNat)
        case atStart => exact ⟨0, by omega, rfl, 0, 0, by omega, hid (by simp [wholes]), rfl, rfl⟩
        case round =>
          obtain ⟨k2, hk2, rfl, s1, s2, hs1, HWH, rfl, rfl⟩ := hrel
          by_cases hlt2 : k2 < l.length
          · have hke : k2 < (fends 0 l).length := by rw [HFE.out]; exact hlt2
            obtain ⟨pe, rfl⟩ := HEN3.out (by omega)
            have hce := HCE.out pe rfl k2 hke
            have hst : wholes B.length ((fends 0 l).take (k2 + 1)) (0, 0) = if (fends 0 l)[k2] ≤ B.length then (s1 + 1, (fends 0 l)[k2]) else (s1, s2) := by
              rw [List.take_succ_eq_append_getElem hke, wholes_append, HWH.out]; rfl
            obtain ⟨E, hE0⟩ : ∃ E, (fends 0 l)[k2] = E := ⟨_, rfl⟩
            rw [hE0] at hce hst
            have HST := hid hst
            clear hst hE0
            by_cases hcmp : E ≤ B.length
            · have hdc : decide (E ≤ B.length) = true := by simpa using hcmp
              have hdi : decide ((E : Int) ≤ (B.length : Int)) = true := by simpa using hcmp
              go_wp2
              go_round
              case rel => exact ⟨k2 + 1, by omega, by go_num, s1 + 1, E, by omega, hid (by rw [HST.out, if_pos hcmp]), by go_num, rfl⟩
              case measure => simp [intOf]; omega
            · have hdc : decide (E ≤ B.length) = false := by simpa using hcmp
              have hdi : decide ((E : Int) ≤ (B.length : Int)) = false := by simpa using hcmp
              go_wp2
              go_round
              case rel => exact ⟨k2 + 1, by omega, by go_num, s1, s2, by omega, hid (by rw [HST.out, if_neg hcmp]), rfl, rfl⟩
              case measure => simp [intOf]; omega
          · obtain rfl : k2 = l.length := by omega
            have hwh := HWH.out
            rw [List.take_of_length_le (by rw [HFE.out]; exact Nat.le_refl _)] at hwh
            have ht := HTORN.out B.length (by omega)
            have hfl := fall_le (B.take B.length)
            rw [hwh] at ht
            have hBp := Byt.part HO2.out.byt 0 B.length (by omega) (by omega) b1 (by split <;> simp [Addr.add])
            simp only [List.drop_zero, Nat.sub_zero] at hBp
            obtain ⟨F1, F2, F3, hF⟩ : ∃ F1 F2 F3, fall (B.take B.length) = (F1, F2, F3) := ⟨_, _, _, rfl⟩
            rw [hF] at ht hfl
            simp only [Prod.mk.injEq] at ht hfl
            obtain ⟨⟨hf1, hf2⟩, hf3, hf4, hf5⟩ := ht
            subst hf1 hf2
            have hfl3 : F3 = 0 ↔ s2 = B.length := by
              rw [hfl.2.2]; simp <;> omega
            have hf1l : F1.length ≤ l.length := hs1
            have hFF := hid hF
            have HBP := hid hBp
            have HF3 := hid hf3
            have HFL3 := hid hfl3
            have HF5 := hid hf5
            clear hwh hfl hBp hF hf3 hfl3 hf5 HWH
            go_wp2_with fail
            refine (all_any _ (B.take B.length) _ HBP.out (by simp; omega)).mono ?_
            rintro e w7 ⟨r7, rfl, hr7, hw7⟩
            rw [hFF.out] at hr7 ⊢
            simp only [] at hr7
            obtain ⟨o7, c7, rfl⟩ := hr7.open
            have hEf := HE.out.trans hw7
            obtain ⟨pm, hpm, hrm, hBm⟩ := hr7.frs
            obtain ⟨hm1, hm2, hm3, hm4, hm5⟩ := hrm.opens
            have HM4 := hid hm4
            have HM5 := hid hm5
            have HM1 := hid hm1
            have HPM := hid hpm
            have HBM := hid hBm
            have HX7 := hid hw7
            have heq : ((s2 : Int) == (B.length : Int)) = decide (s2 = B.length) := by
              rw [Bool.eq_iff_iff]; simp; try omega
            clear hr7 hw7 hrm hm1 hm4 hm5 hpm hBm
            by_cases hs : s2 = B.length
            · have h30 := HFL3.out.2 hs
              subst h30
              subst hs
              clear heq
              go_wp2
              go_loopw [101] (fun i wr => ∃ k3 : Nat, k3 ≤ F1.length ∧ i = .int .i64 k3 ∧ Hid (Ext w7 wr)) (fun i _ => F1.length - (intOf i).toNat)
              case atStart => exact ⟨0, by omega, rfl, Ext.refl _⟩
              case round =>
                obtain ⟨k3, hk3, rfl, HE3⟩ := hrel
                by_cases hlt3 : k3 < F1.length
                · have hkm : k3 < pm.length := by rw [← HM1.out]; exact hlt3
                  have hkq : k3 < q.length := by rw [HQL.out]; omega
                  obtain ⟨p7, rfl⟩ := HM4.out (by omega)
                  obtain ⟨p0, rfl⟩ := HC3.out (by omega)
                  have hsame : pm[k3].1 = q[k3].1 := by
                    have h1 : (pm.map (·.1))[k3]? = ((q.map (·.1)).take F1.length)[k3]? := by rw [HPM.out, HQ.out, ← HF3.out]
                    rw [List.getElem?_take, if_pos hlt3, List.getElem?_map, List.getElem?_map, List.getElem?_eq_getElem hkm, List.getElem?_eq_getElem hkq] at h1
                    simpa using h1
                  have d0 := cell_first (HE3.out.cell (HM5.out p7 rfl k3 hkm 0 _ rfl))
                  have d1 := cell_next (HE3.out.cell (HM5.out p7 rfl k3 hkm 1 _ rfl)) (by decide)
                  have e0 := cell_first ((hEf.trans HE3.out).cell (HC.out p0 rfl k3 hkq 0 _ rfl))
                  have e1' := cell_next ((hEf.trans HE3.out).cell (HC.out p0 rfl k3 hkq 1 _ rfl)) (by decide)
                  have hBq := HBM.out _ (List.getElem_mem hkm)
                  have hBc := HB.out _ (List.getElem_mem hkq)
                  rw [← hsame] at e0 hBc
                  obtain ⟨X, hX0⟩ : ∃ X, pm[k3].1 = X := ⟨_, rfl⟩
                  obtain ⟨U, hU0⟩ : ∃ U, q[k3].2 = U := ⟨_, rfl⟩
                  obtain ⟨V, hV0⟩ : ∃ V, pm[k3].2 = V := ⟨_, rfl⟩
                  rw [hX0] at d0 e0 hBq hBc
                  rw [hV0] at d1 hBq
                  rw [hU0] at e1' hBc
                  obtain ⟨U1, U3, hU, -, -, -, -⟩ := hBc.open
                  obtain ⟨V1, V3, hV, -, -, -, -⟩ := hBq.open
                  subst hU hV
                  have BU := hid (hBc.ext (hEf.trans HE3.out))
                  have BV := hid (hBq.ext HE3.out)
                  have HSB := hid (show sameB X X = true by simp [sameB])
                  have E0 := hid e0
                  have E1 := hid e1'
                  have hI : (k3 : Int) < (F1.length : Int) := by omega
                  have hI1 : (k3 : Int) < (l.length : Int) := by omega
                  have hI0 : (0 : Int) ≤ k3 := by omega
                  clear hsame hX0 hU0 hV0 hBq hBc e0 e1'
                  go_wp2_with fail
                  have hxr := Ext.alloc wr (.cells #[.int .u8 (X.kind.toNat : Int), .slice V1 X.body.length V3] 24)
                  have HY := hid (blk2 (heap_alloc_new wr (.cells #[.int .u8 (X.kind.toNat : Int), .slice V1 X.body.length V3] 24)))
                  have E0b := hid (hxr.cell E0.out)
                  have E1b := hid (hxr.cell E1.out)
                  have BUb := hid (BU.out.ext hxr)
                  have BVb := hid (BV.out.ext hxr)
                  have HEb := HE3.out.trans hxr
                  clear hxr E0 E1 BU BV d0 d1
                  generalize wr.heap.size = br at *
                  generalize wr.alloc (.cells #[.int .u8 (X.kind.toNat : Int), .slice V1 X.body.length V3] 24) = W9 at *
                  refine Par.wp_region_par (l := [_, _, _, _, _, _, _]) rfl Ext (Par.VL [Par.EQ (fv X (.slice V1 X.body.length V3)), Par.EQ (Value.slice (some p0) l.length cap), Par.EQ (Value.int IntKind.i64 (k3 : Int)), Par.EQ (Value.pointer (some (p0.add (k3 * 2)))), Par.EQ (fv X (.slice U1 X.body.length U3)), Par.EQ (Value.bool true), Par.EQ (Value.bool false)]) (by kernel_rfl) Ext.refl (fun _ _ _ h1 h2 => Ext.trans h1 h2) (Ext.draw _) (Par.VL_stab ?_) ?_ ?_
                  · simp only [List.forall_mem_cons, List.not_mem_nil, false_implies, implies_true, and_true]
                    refine ⟨fun _ _ _ _ h => h, fun _ _ _ _ h => h, fun _ _ _ _ h => h, fun _ _ _ _ h => h, fun _ _ _ _ h => h, fun _ _ _ _ h => h, fun _ _ _ _ h => h⟩
                  · refine ⟨⟨fun _ _ => trivial, fun ρ w' hX hG hk => ?_⟩, ?_⟩
                    · obtain ⟨k0, -⟩ := hk
                      have e0 : ρ (.tmp 19) = Value.pointer (some ⟨br, 0, none⟩) := k0
                      clear k0
                      refine Par.val_k fun K hK => ?_
                      unfold Par.val
                      (have c := hX.cell HY.out.1; have c2 := hX.cell HY.out.2.1; go_simp; exact hK _ _ ⟨Ext.refl _, rfl⟩)
                    refine ⟨⟨fun _ _ => trivial, fun ρ w' hX hG hk => ?_⟩, ?_⟩
                    · exact Par.val_of_run rfl ⟨Ext.refl _, hk.1⟩
                    refine ⟨⟨fun _ _ => trivial, fun ρ w' hX hG hk => ?_⟩, ?_⟩
                    · exact Par.val_of_run rfl ⟨Ext.refl _, hk.1⟩
                    refine ⟨⟨fun _ _ => trivial, fun ρ w' hX hG hk => ?_⟩, ?_⟩
                    · obtain ⟨k0, k1, -⟩ := hk
                      have e0 : ρ (.tmp 107) = Value.slice (some p0) l.length cap := k0
                      have e1 : ρ (.tmp 108) = Value.int IntKind.i64 (k3 : Int) := k1
                      clear k0 k1
                      refine Par.val_k fun K hK => ?_
                      unfold Par.val
                      (go_simp; exact hK _ _ ⟨Ext.refl _, rfl⟩)
                    refine ⟨⟨fun _ _ => trivial, fun ρ w' hX hG hk => ?_⟩, ?_⟩
                    · obtain ⟨k0, -⟩ := hk
                      have e0 : ρ (.tmp 109) = Value.pointer (some (p0.add (k3 * 2))) := k0
                      clear k0
                      refine Par.val_k fun K hK => ?_
                      unfold Par.val
                      (have c := hX.cell E0b.out; have c2 := hX.cell E1b.out; go_simp; exact hK _ _ ⟨Ext.refl _, rfl⟩)
                    refine ⟨⟨fun _ _ => trivial, fun ρ w' hX hG hk => ?_⟩, ?_⟩
                    · obtain ⟨k0, k1, k2, -⟩ := hk
                      have e0 := k0
                      have e1 : ρ (.tmp 106) = fv X (.slice V1 X.body.length V3) := k1
                      have e2 : ρ (.tmp 110) = fv X (.slice U1 X.body.length U3) := k2
                      clear k0 k1 k2
                      refine Par.val_k fun K hK => ?_
                      unfold Par.val
                      refine Par.val_call Try.func18 (by kernel_rfl) rfl e0 ?_
                      simp only [List.map_toArray, List.map_cons, List.map_nil, e1, e2]
                      refine (same_any X X _ _ _ (BVb.out.ext hX) (BUb.out.ext hX)).mono ?_
                      rintro e w2 ⟨rfl, h2⟩
                      exact ⟨_, rfl, hK _ _ ⟨h2, (congrArg Value.bool HSB.out)⟩⟩
                    refine ⟨⟨fun _ _ => trivial, fun ρ w' hX hG hk => ?_⟩, ?_⟩
                    · obtain ⟨k0, -⟩ := hk
                      have e0 : ρ (.tmp 111) = Value.bool true := k0
                      clear k0
                      refine Par.val_k fun K hK => ?_
                      unfold Par.val
                      (go_simp; exact hK _ _ ⟨Ext.refl _, rfl⟩)
                    trivial
                  intro a' w' inv
                  have hX := inv.ext
                  have q106 : a'.tmps.getD 106 undef = fv X (.slice V1 X.body.length V3) := inv.done 0 _ 106 rfl rfl rfl
                  have q107 : a'.tmps.getD 107 undef = Value.slice (some p0) l.length cap := inv.done 1 _ 107 rfl rfl rfl
                  have q108 : a'.tmps.getD 108 undef = Value.int IntKind.i64 (k3 : Int) := inv.done 2 _ 108 rfl rfl rfl
                  have q109 : a'.tmps.getD 109 undef = Value.pointer (some (p0.add (k3 * 2))) := inv.done 3 _ 109 rfl rfl rfl
                  have q110 : a'.tmps.getD 110 undef = fv X (.slice U1 X.body.length U3) := inv.done 4 _ 110 rfl rfl rfl
                  have q111 : a'.tmps.getD 111 undef = Value.bool true := inv.done 5 _ 111 rfl rfl rfl
                  have q112 : a'.tmps.getD 112 undef = Value.bool false := inv.done 6 _ 112 rfl rfl rfl
                  clear inv
                  simp only [List.filterMap_cons, List.filterMap_nil, Par.putAll, Act.put, List.setIfInBounds_toArray, List.set_cons_succ, List.set_cons_zero, q106, q107, q108, q109, q110, q111, q112]
                  clear q106 q107 q108 q109 q110 q111 q112
                  clear a'
                  have HEc := HEb.trans hX
                  go_wp2
                  go_roundw
                  case rel => exact ⟨k3 + 1, by omega, by go_num, HEc⟩
                  case measure => simp [intOf]; omega
                · obtain rfl : k3 = F1.length := by omega
                  go_wp2
                  go_ret
                  exact ⟨rfl, hEf.trans HE3.out⟩
            · have hlts : s2 < B.length := by omega
              have h33 := HF5.out hlts
              subst h33
              have hd1 : ((s2 : Int) == (B.length : Int)) = false := by simp; omega
              have hd2 : decide (s2 < B.length) = true := by simpa using hlts
              have hd3 : decide ((s2 : Int) < (B.length : Int)) = true := by simp; omega
              clear hs
              clear heq
              go_wp2
              go_loopw [101] (fun i wr => ∃ k3 : Nat, k3 ≤ F1.length ∧ i = .int .i64 k3 ∧ Hid (Ext w7 wr)) (fun i _ => F1.length - (intOf i).toNat)
              case atStart => exact ⟨0, by omega, rfl, Ext.refl _⟩
              case round =>
                obtain ⟨k3, hk3, rfl, HE3⟩ := hrel
                by_cases hlt3 : k3 < F1.length
                · have hkm : k3 < pm.length := by rw [← HM1.out]; exact hlt3
                  have hkq : k3 < q.length := by rw [HQL.out]; omega
                  obtain ⟨p7, rfl⟩ := HM4.out (by omega)
                  obtain ⟨p0, rfl⟩ := HC3.out (by omega)
                  have hsame : pm[k3].1 = q[k3].1 := by
                    have h1 : (pm.map (·.1))[k3]? = ((q.map (·.1)).take F1.length)[k3]? := by rw [HPM.out, HQ.out, ← HF3.out]
                    rw [List.getElem?_take, if_pos hlt3, List.getElem?_map, List.getElem?_map, List.getElem?_eq_getElem hkm, List.getElem?_eq_getElem hkq] at h1
                    simpa using h1
                  have d0 := cell_first (HE3.out.cell (HM5.out p7 rfl k3 hkm 0 _ rfl))
                  have d1 := cell_next (HE3.out.cell (HM5.out p7 rfl k3 hkm 1 _ rfl)) (by decide)
                  have e0 := cell_first ((hEf.trans HE3.out).cell (HC.out p0 rfl k3 hkq 0 _ rfl))
                  have e1' := cell_next ((hEf.trans HE3.out).cell (HC.out p0 rfl k3 hkq 1 _ rfl)) (by decide)
                  have hBq := HBM.out _ (List.getElem_mem hkm)
                  have hBc := HB.out _ (List.getElem_mem hkq)
                  rw [← hsame] at e0 hBc
                  obtain ⟨X, hX0⟩ : ∃ X, pm[k3].1 = X := ⟨_, rfl⟩
                  obtain ⟨U, hU0⟩ : ∃ U, q[k3].2 = U := ⟨_, rfl⟩
                  obtain ⟨V, hV0⟩ : ∃ V, pm[k3].2 = V := ⟨_, rfl⟩
                  rw [hX0] at d0 e0 hBq hBc
                  rw [hV0] at d1 hBq
                  rw [hU0] at e1' hBc
                  obtain ⟨U1, U3, hU, -, -, -, -⟩ := hBc.open
                  obtain ⟨V1, V3, hV, -, -, -, -⟩ := hBq.open
                  subst hU hV
                  have BU := hid (hBc.ext (hEf.trans HE3.out))
                  have BV := hid (hBq.ext HE3.out)
                  have HSB := hid (show sameB X X = true by simp [sameB])
                  have E0 := hid e0
                  have E1 := hid e1'
                  have hI : (k3 : Int) < (F1.length : Int) := by omega
                  have hI1 : (k3 : Int) < (l.length : Int) := by omega
                  have hI0 : (0 : Int) ≤ k3 := by omega
                  clear hsame hX0 hU0 hV0 hBq hBc e0 e1'
                  go_wp2_with fail
                  have hxr := Ext.alloc wr (.cells #[.int .u8 (X.kind.toNat : Int), .slice V1 X.body.length V3] 24)
                  have HY := hid (blk2 (heap_alloc_new wr (.cells #[.int .u8 (X.kind.toNat : Int), .slice V1 X.body.length V3] 24)))
                  have E0b := hid (hxr.cell E0.out)
                  have E1b := hid (hxr.cell E1.out)
                  have BUb := hid (BU.out.ext hxr)
                  have BVb := hid (BV.out.ext hxr)
                  have HEb := HE3.out.trans hxr
                  clear hxr E0 E1 BU BV d0 d1
                  generalize wr.heap.size = br at *
                  generalize wr.alloc (.cells #[.int .u8 (X.kind.toNat : Int), .slice V1 X.body.length V3] 24) = W9 at *
                  refine Par.wp_region_par (l := [_, _, _, _, _, _, _]) rfl Ext (Par.VL [Par.EQ (fv X (.slice V1 X.body.length V3)), Par.EQ (Value.slice (some p0) l.length cap), Par.EQ (Value.int IntKind.i64 (k3 : Int)), Par.EQ (Value.pointer (some (p0.add (k3 * 2)))), Par.EQ (fv X (.slice U1 X.body.length U3)), Par.EQ (Value.bool true), Par.EQ (Value.bool false)]) (by kernel_rfl) Ext.refl (fun _ _ _ h1 h2 => Ext.trans h1 h2) (Ext.draw _) (Par.VL_stab ?_) ?_ ?_
                  · simp only [List.forall_mem_cons, List.not_mem_nil, false_implies, implies_true, and_true]
                    refine ⟨fun _ _ _ _ h => h, fun _ _ _ _ h => h, fun _ _ _ _ h => h, fun _ _ _ _ h => h, fun _ _ _ _ h => h, fun _ _ _ _ h => h, fun _ _ _ _ h => h⟩
                  · refine ⟨⟨fun _ _ => trivial, fun ρ w' hX hG hk => ?_⟩, ?_⟩
                    · obtain ⟨k0, -⟩ := hk
                      have e0 : ρ (.tmp 19) = Value.pointer (some ⟨br, 0, none⟩) := k0
                      clear k0
                      refine Par.val_k fun K hK => ?_
                      unfold Par.val
                      (have c := hX.cell HY.out.1; have c2 := hX.cell HY.out.2.1; go_simp; exact hK _ _ ⟨Ext.refl _, rfl⟩)
                    refine ⟨⟨fun _ _ => trivial, fun ρ w' hX hG hk => ?_⟩, ?_⟩
                    · exact Par.val_of_run rfl ⟨Ext.refl _, hk.1⟩
                    refine ⟨⟨fun _ _ => trivial, fun ρ w' hX hG hk => ?_⟩, ?_⟩
                    · exact Par.val_of_run rfl ⟨Ext.refl _, hk.1⟩
                    refine ⟨⟨fun _ _ => trivial, fun ρ w' hX hG hk => ?_⟩, ?_⟩
                    · obtain ⟨k0, k1, -⟩ := hk
                      have e0 : ρ (.tmp 107) = Value.slice (some p0) l.length cap := k0
                      have e1 : ρ (.tmp 108) = Value.int IntKind.i64 (k3 : Int) := k1
                      clear k0 k1
                      refine Par.val_k fun K hK => ?_
                      unfold Par.val
                      (go_simp; exact hK _ _ ⟨Ext.refl _, rfl⟩)
                    refine ⟨⟨fun _ _ => trivial, fun ρ w' hX hG hk => ?_⟩, ?_⟩
                    · obtain ⟨k0, -⟩ := hk
                      have e0 : ρ (.tmp 109) = Value.pointer (some (p0.add (k3 * 2))) := k0
                      clear k0
                      refine Par.val_k fun K hK => ?_
                      unfold Par.val
                      (have c := hX.cell E0b.out; have c2 := hX.cell E1b.out; go_simp; exact hK _ _ ⟨Ext.refl _, rfl⟩)
                    refine ⟨⟨fun _ _ => trivial, fun ρ w' hX hG hk => ?_⟩, ?_⟩
                    · obtain ⟨k0, k1, k2, -⟩ := hk
                      have e0 := k0
                      have e1 : ρ (.tmp 106) = fv X (.slice V1 X.body.length V3) := k1
                      have e2 : ρ (.tmp 110) = fv X (.slice U1 X.body.length U3) := k2
                      clear k0 k1 k2
                      refine Par.val_k fun K hK => ?_
                      unfold Par.val
                      refine Par.val_call Try.func18 (by kernel_rfl) rfl e0 ?_
                      simp only [List.map_toArray, List.map_cons, List.map_nil, e1, e2]
                      refine (same_any X X _ _ _ (BVb.out.ext hX) (BUb.out.ext hX)).mono ?_
                      rintro e w2 ⟨rfl, h2⟩
                      exact ⟨_, rfl, hK _ _ ⟨h2, (congrArg Value.bool HSB.out)⟩⟩
                    refine ⟨⟨fun _ _ => trivial, fun ρ w' hX hG hk => ?_⟩, ?_⟩
                    · obtain ⟨k0, -⟩ := hk
                      have e0 : ρ (.tmp 111) = Value.bool true := k0
                      clear k0
                      refine Par.val_k fun K hK => ?_
                      unfold Par.val
                      (go_simp; exact hK _ _ ⟨Ext.refl _, rfl⟩)
                    trivial
                  intro a' w' inv
                  have hX := inv.ext
                  have q106 : a'.tmps.getD 106 undef = fv X (.slice V1 X.body.length V3) := inv.done 0 _ 106 rfl rfl rfl
                  have q107 : a'.tmps.getD 107 undef = Value.slice (some p0) l.length cap := inv.done 1 _ 107 rfl rfl rfl
                  have q108 : a'.tmps.getD 108 undef = Value.int IntKind.i64 (k3 : Int) := inv.done 2 _ 108 rfl rfl rfl
                  have q109 : a'.tmps.getD 109 undef = Value.pointer (some (p0.add (k3 * 2))) := inv.done 3 _ 109 rfl rfl rfl
                  have q110 : a'.tmps.getD 110 undef = fv X (.slice U1 X.body.length U3) := inv.done 4 _ 110 rfl rfl rfl
                  have q111 : a'.tmps.getD 111 undef = Value.bool true := inv.done 5 _ 111 rfl rfl rfl
                  have q112 : a'.tmps.getD 112 undef = Value.bool false := inv.done 6 _ 112 rfl rfl rfl
                  clear inv
                  simp only [List.filterMap_cons, List.filterMap_nil, Par.putAll, Act.put, List.setIfInBounds_toArray, List.set_cons_succ, List.set_cons_zero, q106, q107, q108, q109, q110, q111, q112]
                  clear q106 q107 q108 q109 q110 q111 q112
                  clear a'
                  have HEc := HEb.trans hX
                  go_wp2
                  go_roundw
                  case rel => exact ⟨k3 + 1, by omega, by go_num, HEc⟩
                  case measure => simp [intOf]; omega
                · obtain rfl : k3 = F1.length := by omega
                  go_wp2
                  go_ret
                  exact ⟨rfl, hEf.trans HE3.out⟩
      obtain ⟨c, hmax⟩ : ∃ c : Nat, (if cut < 0 then (0 : Int) else cut) = (c : Int) := ⟨(if cut < 0 then (0 : Int) else cut).toNat, by split <;> omega⟩
      have hcB : c ≤ B.length := by split at hmax <;> omega
      have hcBi : (c : Int) ≤ B.length := by omega
      go_wp2
      go_loop [11, 12, 54] (fun wh at_ i => ∃ k2 : Nat, k2 ≤ l.length ∧ i = .int .i64 k2 ∧ ∃ s1 s2 : Nat, s1 ≤ k2 ∧ Hid (wholes c ((fends 0 l).take k2) (0, 0) = (s1, s2)) ∧ wh = .int .i64 s1 ∧ at_ = .int .i64 s2) (fun _ _ i => l.length - (intOf i).toNat)
      case atStart => exact ⟨0, by omega, rfl, 0, 0, by omega, hid (by simp [wholes]), rfl, rfl⟩
      case round =>
        obtain ⟨k2, hk2, rfl, s1, s2, hs1, HWH, rfl, rfl⟩ := hrel
        by_cases hlt2 : k2 < l.length
        · have hke : k2 < (fends 0 l).length := by rw [HFE.out]; exact hlt2
          obtain ⟨pe, rfl⟩ := HEN3.out (by omega)
          have hce := HCE.out pe rfl k2 hke
          have hst : wholes c ((fends 0 l).take (k2 + 1)) (0, 0) = if (fends 0 l)[k2] ≤ c then (s1 + 1, (fends 0 l)[k2]) else (s1, s2) := by
            rw [List.take_succ_eq_append_getElem hke, wholes_append, HWH.out]; rfl
          obtain ⟨E, hE0⟩ : ∃ E, (fends 0 l)[k2] = E := ⟨_, rfl⟩
          rw [hE0] at hce hst
          have HST := hid hst
          clear hst hE0
          by_cases hcmp : E ≤ c
          · have hdc : decide (E ≤ c) = true := by simpa using hcmp
            have hdi : decide ((E : Int) ≤ (c : Int)) = true := by simpa using hcmp
            go_wp2
            go_round
            case rel => exact ⟨k2 + 1, by omega, by go_num, s1 + 1, E, by omega, hid (by rw [HST.out, if_pos hcmp]), by go_num, rfl⟩
            case measure => simp [intOf]; omega
          · have hdc : decide (E ≤ c) = false := by simpa using hcmp
            have hdi : decide ((E : Int) ≤ (c : Int)) = false := by simpa using hcmp
            go_wp2
            go_round
            case rel => exact ⟨k2 + 1, by omega, by go_num, s1, s2, by omega, hid (by rw [HST.out, if_neg hcmp]), rfl, rfl⟩
            case measure => simp [intOf]; omega
        · obtain rfl : k2 = l.length := by omega
          have hwh := HWH.out
          rw [List.take_of_length_le (by rw [HFE.out]; exact Nat.le_refl _)] at hwh
          have ht := HTORN.out c (by omega)
          have hfl := fall_le (B.take c)
          rw [hwh] at ht
          have hBp := Byt.part HO2.out.byt 0 c (by omega) (by omega) b1 (by split <;> simp [Addr.add])
          simp only [List.drop_zero, Nat.sub_zero] at hBp
          obtain ⟨F1, F2, F3, hF⟩ : ∃ F1 F2 F3, fall (B.take c) = (F1, F2, F3) := ⟨_, _, _, rfl⟩
          rw [hF] at ht hfl
          simp only [Prod.mk.injEq] at ht hfl
          obtain ⟨⟨hf1, hf2⟩, hf3, hf4, hf5⟩ := ht
          subst hf1 hf2
          have hfl3 : F3 = 0 ↔ s2 = c := by
            rw [hfl.2.2]; simp <;> omega
          have hf1l : F1.length ≤ l.length := hs1
          have hFF := hid hF
          have HBP := hid hBp
          have HF3 := hid hf3
          have HFL3 := hid hfl3
          have HF5 := hid hf5
          clear hwh hfl hBp hF hf3 hfl3 hf5 HWH
          go_wp2_with fail
          refine (all_any _ (B.take c) _ HBP.out (by simp; omega)).mono ?_
          rintro e w7 ⟨r7, rfl, hr7, hw7⟩
          rw [hFF.out] at hr7 ⊢
          simp only [] at hr7
          obtain ⟨o7, c7, rfl⟩ := hr7.open
          have hEf := HE.out.trans hw7
          obtain ⟨pm, hpm, hrm, hBm⟩ := hr7.frs
          obtain ⟨hm1, hm2, hm3, hm4, hm5⟩ := hrm.opens
          have HM4 := hid hm4
          have HM5 := hid hm5
          have HM1 := hid hm1
          have HPM := hid hpm
          have HBM := hid hBm
          have HX7 := hid hw7
          have heq : ((s2 : Int) == (c : Int)) = decide (s2 = c) := by
            rw [Bool.eq_iff_iff]; simp; try omega
          clear hr7 hw7 hrm hm1 hm4 hm5 hpm hBm
          by_cases hs : s2 = c
          · have h30 := HFL3.out.2 hs
            subst h30
            subst hs
            clear heq
            go_wp2
            go_loopw [101] (fun i wr => ∃ k3 : Nat, k3 ≤ F1.length ∧ i = .int .i64 k3 ∧ Hid (Ext w7 wr)) (fun i _ => F1.length - (intOf i).toNat)
            case atStart => exact ⟨0, by omega, rfl, Ext.refl _⟩
            case round =>
              obtain ⟨k3, hk3, rfl, HE3⟩ := hrel
              by_cases hlt3 : k3 < F1.length
              · have hkm : k3 < pm.length := by rw [← HM1.out]; exact hlt3
                have hkq : k3 < q.length := by rw [HQL.out]; omega
                obtain ⟨p7, rfl⟩ := HM4.out (by omega)
                obtain ⟨p0, rfl⟩ := HC3.out (by omega)
                have hsame : pm[k3].1 = q[k3].1 := by
                  have h1 : (pm.map (·.1))[k3]? = ((q.map (·.1)).take F1.length)[k3]? := by rw [HPM.out, HQ.out, ← HF3.out]
                  rw [List.getElem?_take, if_pos hlt3, List.getElem?_map, List.getElem?_map, List.getElem?_eq_getElem hkm, List.getElem?_eq_getElem hkq] at h1
                  simpa using h1
                have d0 := cell_first (HE3.out.cell (HM5.out p7 rfl k3 hkm 0 _ rfl))
                have d1 := cell_next (HE3.out.cell (HM5.out p7 rfl k3 hkm 1 _ rfl)) (by decide)
                have e0 := cell_first ((hEf.trans HE3.out).cell (HC.out p0 rfl k3 hkq 0 _ rfl))
                have e1' := cell_next ((hEf.trans HE3.out).cell (HC.out p0 rfl k3 hkq 1 _ rfl)) (by decide)
                have hBq := HBM.out _ (List.getElem_mem hkm)
                have hBc := HB.out _ (List.getElem_mem hkq)
                rw [← hsame] at e0 hBc
                obtain ⟨X, hX0⟩ : ∃ X, pm[k3].1 = X := ⟨_, rfl⟩
                obtain ⟨U, hU0⟩ : ∃ U, q[k3].2 = U := ⟨_, rfl⟩
                obtain ⟨V, hV0⟩ : ∃ V, pm[k3].2 = V := ⟨_, rfl⟩
                rw [hX0] at d0 e0 hBq hBc
                rw [hV0] at d1 hBq
                rw [hU0] at e1' hBc
                obtain ⟨U1, U3, hU, -, -, -, -⟩ := hBc.open
                obtain ⟨V1, V3, hV, -, -, -, -⟩ := hBq.open
                subst hU hV
                have BU := hid (hBc.ext (hEf.trans HE3.out))
                have BV := hid (hBq.ext HE3.out)
                have HSB := hid (show sameB X X = true by simp [sameB])
                have E0 := hid e0
                have E1 := hid e1'
                have hI : (k3 : Int) < (F1.length : Int) := by omega
                have hI1 : (k3 : Int) < (l.length : Int) := by omega
                have hI0 : (0 : Int) ≤ k3 := by omega
                clear hsame hX0 hU0 hV0 hBq hBc e0 e1'
                go_wp2_with fail
                have hxr := Ext.alloc wr (.cells #[.int .u8 (X.kind.toNat : Int), .slice V1 X.body.length V3] 24)
                have HY := hid (blk2 (heap_alloc_new wr (.cells #[.int .u8 (X.kind.toNat : Int), .slice V1 X.body.length V3] 24)))
                have E0b := hid (hxr.cell E0.out)
                have E1b := hid (hxr.cell E1.out)
                have BUb := hid (BU.out.ext hxr)
                have BVb := hid (BV.out.ext hxr)
                have HEb := HE3.out.trans hxr
                clear hxr E0 E1 BU BV d0 d1
                generalize wr.heap.size = br at *
                generalize wr.alloc (.cells #[.int .u8 (X.kind.toNat : Int), .slice V1 X.body.length V3] 24) = W9 at *
                refine Par.wp_region_par (l := [_, _, _, _, _, _, _]) rfl Ext (Par.VL [Par.EQ (fv X (.slice V1 X.body.length V3)), Par.EQ (Value.slice (some p0) l.length cap), Par.EQ (Value.int IntKind.i64 (k3 : Int)), Par.EQ (Value.pointer (some (p0.add (k3 * 2)))), Par.EQ (fv X (.slice U1 X.body.length U3)), Par.EQ (Value.bool true), Par.EQ (Value.bool false)]) (by kernel_rfl) Ext.refl (fun _ _ _ h1 h2 => Ext.trans h1 h2) (Ext.draw _) (Par.VL_stab ?_) ?_ ?_
                · simp only [List.forall_mem_cons, List.not_mem_nil, false_implies, implies_true, and_true]
                  refine ⟨fun _ _ _ _ h => h, fun _ _ _ _ h => h, fun _ _ _ _ h => h, fun _ _ _ _ h => h, fun _ _ _ _ h => h, fun _ _ _ _ h => h, fun _ _ _ _ h => h⟩
                · refine ⟨⟨fun _ _ => trivial, fun ρ w' hX hG hk => ?_⟩, ?_⟩
                  · obtain ⟨k0, -⟩ := hk
                    have e0 : ρ (.tmp 19) = Value.pointer (some ⟨br, 0, none⟩) := k0
                    clear k0
                    refine Par.val_k fun K hK => ?_
                    unfold Par.val
                    (have c := hX.cell HY.out.1; have c2 := hX.cell HY.out.2.1; go_simp; exact hK _ _ ⟨Ext.refl _, rfl⟩)
                  refine ⟨⟨fun _ _ => trivial, fun ρ w' hX hG hk => ?_⟩, ?_⟩
                  · exact Par.val_of_run rfl ⟨Ext.refl _, hk.1⟩
                  refine ⟨⟨fun _ _ => trivial, fun ρ w' hX hG hk => ?_⟩, ?_⟩
                  · exact Par.val_of_run rfl ⟨Ext.refl _, hk.1⟩
                  refine ⟨⟨fun _ _ => trivial, fun ρ w' hX hG hk => ?_⟩, ?_⟩
                  · obtain ⟨k0, k1, -⟩ := hk
                    have e0 : ρ (.tmp 107) = Value.slice (some p0) l.length cap := k0
                    have e1 : ρ (.tmp 108) = Value.int IntKind.i64 (k3 : Int) := k1
                    clear k0 k1
                    refine Par.val_k fun K hK => ?_
                    unfold Par.val
                    (go_simp; exact hK _ _ ⟨Ext.refl _, rfl⟩)
                  refine ⟨⟨fun _ _ => trivial, fun ρ w' hX hG hk => ?_⟩, ?_⟩
                  · obtain ⟨k0, -⟩ := hk
                    have e0 : ρ (.tmp 109) = Value.pointer (some (p0.add (k3 * 2))) := k0
                    clear k0
                    refine Par.val_k fun K hK => ?_
                    unfold Par.val
                    (have c := hX.cell E0b.out; have c2 := hX.cell E1b.out; go_simp; exact hK _ _ ⟨Ext.refl _, rfl⟩)
                  refine ⟨⟨fun _ _ => trivial, fun ρ w' hX hG hk => ?_⟩, ?_⟩
                  · obtain ⟨k0, k1, k2, -⟩ := hk
                    have e0 := k0
                    have e1 : ρ (.tmp 106) = fv X (.slice V1 X.body.length V3) := k1
                    have e2 : ρ (.tmp 110) = fv X (.slice U1 X.body.length U3) := k2
                    clear k0 k1 k2
                    refine Par.val_k fun K hK => ?_
                    unfold Par.val
                    refine Par.val_call Try.func18 (by kernel_rfl) rfl e0 ?_
                    simp only [List.map_toArray, List.map_cons, List.map_nil, e1, e2]
                    refine (same_any X X _ _ _ (BVb.out.ext hX) (BUb.out.ext hX)).mono ?_
                    rintro e w2 ⟨rfl, h2⟩
                    exact ⟨_, rfl, hK _ _ ⟨h2, (congrArg Value.bool HSB.out)⟩⟩
                  refine ⟨⟨fun _ _ => trivial, fun ρ w' hX hG hk => ?_⟩, ?_⟩
                  · obtain ⟨k0, -⟩ := hk
                    have e0 : ρ (.tmp 111) = Value.bool true := k0
                    clear k0
                    refine Par.val_k fun K hK => ?_
                    unfold Par.val
                    (go_simp; exact hK _ _ ⟨Ext.refl _, rfl⟩)
                  trivial
                intro a' w' inv
                have hX := inv.ext
                have q106 : a'.tmps.getD 106 undef = fv X (.slice V1 X.body.length V3) := inv.done 0 _ 106 rfl rfl rfl
                have q107 : a'.tmps.getD 107 undef = Value.slice (some p0) l.length cap := inv.done 1 _ 107 rfl rfl rfl
                have q108 : a'.tmps.getD 108 undef = Value.int IntKind.i64 (k3 : Int) := inv.done 2 _ 108 rfl rfl rfl
                have q109 : a'.tmps.getD 109 undef = Value.pointer (some (p0.add (k3 * 2))) := inv.done 3 _ 109 rfl rfl rfl
                have q110 : a'.tmps.getD 110 undef = fv X (.slice U1 X.body.length U3) := inv.done 4 _ 110 rfl rfl rfl
                have q111 : a'.tmps.getD 111 undef = Value.bool true := inv.done 5 _ 111 rfl rfl rfl
                have q112 : a'.tmps.getD 112 undef = Value.bool false := inv.done 6 _ 112 rfl rfl rfl
                clear inv
                simp only [List.filterMap_cons, List.filterMap_nil, Par.putAll, Act.put, List.setIfInBounds_toArray, List.set_cons_succ, List.set_cons_zero, q106, q107, q108, q109, q110, q111, q112]
                clear q106 q107 q108 q109 q110 q111 q112
                clear a'
                have HEc := HEb.trans hX
                go_wp2
                go_roundw
                case rel => exact ⟨k3 + 1, by omega, by go_num, HEc⟩
                case measure => simp [intOf]; omega
              · obtain rfl : k3 = F1.length := by omega
                go_wp2
                go_ret
                exact ⟨rfl, hEf.trans HE3.out⟩
          · have hlts : s2 < c := by omega
            have h33 := HF5.out hlts
            subst h33
            have hd1 : ((s2 : Int) == (c : Int)) = false := by simp; omega
            have hd2 : decide (s2 < c) = true := by simpa using hlts
            have hd3 : decide ((s2 : Int) < (c : Int)) = true := by simp; omega
            clear hs
            clear heq
            go_wp2
            go_loopw [101] (fun i wr => ∃ k3 : Nat, k3 ≤ F1.length ∧ i = .int .i64 k3 ∧ Hid (Ext w7 wr)) (fun i _ => F1.length - (intOf i).toNat)
            case atStart => exact ⟨0, by omega, rfl, Ext.refl _⟩
            case round =>
              obtain ⟨k3, hk3, rfl, HE3⟩ := hrel
              by_cases hlt3 : k3 < F1.length
              · have hkm : k3 < pm.length := by rw [← HM1.out]; exact hlt3
                have hkq : k3 < q.length := by rw [HQL.out]; omega
                obtain ⟨p7, rfl⟩ := HM4.out (by omega)
                obtain ⟨p0, rfl⟩ := HC3.out (by omega)
                have hsame : pm[k3].1 = q[k3].1 := by
                  have h1 : (pm.map (·.1))[k3]? = ((q.map (·.1)).take F1.length)[k3]? := by rw [HPM.out, HQ.out, ← HF3.out]
                  rw [List.getElem?_take, if_pos hlt3, List.getElem?_map, List.getElem?_map, List.getElem?_eq_getElem hkm, List.getElem?_eq_getElem hkq] at h1
                  simpa using h1
                have d0 := cell_first (HE3.out.cell (HM5.out p7 rfl k3 hkm 0 _ rfl))
                have d1 := cell_next (HE3.out.cell (HM5.out p7 rfl k3 hkm 1 _ rfl)) (by decide)
                have e0 := cell_first ((hEf.trans HE3.out).cell (HC.out p0 rfl k3 hkq 0 _ rfl))
                have e1' := cell_next ((hEf.trans HE3.out).cell (HC.out p0 rfl k3 hkq 1 _ rfl)) (by decide)
                have hBq := HBM.out _ (List.getElem_mem hkm)
                have hBc := HB.out _ (List.getElem_mem hkq)
                rw [← hsame] at e0 hBc
                obtain ⟨X, hX0⟩ : ∃ X, pm[k3].1 = X := ⟨_, rfl⟩
                obtain ⟨U, hU0⟩ : ∃ U, q[k3].2 = U := ⟨_, rfl⟩
                obtain ⟨V, hV0⟩ : ∃ V, pm[k3].2 = V := ⟨_, rfl⟩
                rw [hX0] at d0 e0 hBq hBc
                rw [hV0] at d1 hBq
                rw [hU0] at e1' hBc
                obtain ⟨U1, U3, hU, -, -, -, -⟩ := hBc.open
                obtain ⟨V1, V3, hV, -, -, -, -⟩ := hBq.open
                subst hU hV
                have BU := hid (hBc.ext (hEf.trans HE3.out))
                have BV := hid (hBq.ext HE3.out)
                have HSB := hid (show sameB X X = true by simp [sameB])
                have E0 := hid e0
                have E1 := hid e1'
                have hI : (k3 : Int) < (F1.length : Int) := by omega
                have hI1 : (k3 : Int) < (l.length : Int) := by omega
                have hI0 : (0 : Int) ≤ k3 := by omega
                clear hsame hX0 hU0 hV0 hBq hBc e0 e1'
                go_wp2_with fail
                have hxr := Ext.alloc wr (.cells #[.int .u8 (X.kind.toNat : Int), .slice V1 X.body.length V3] 24)
                have HY := hid (blk2 (heap_alloc_new wr (.cells #[.int .u8 (X.kind.toNat : Int), .slice V1 X.body.length V3] 24)))
                have E0b := hid (hxr.cell E0.out)
                have E1b := hid (hxr.cell E1.out)
                have BUb := hid (BU.out.ext hxr)
                have BVb := hid (BV.out.ext hxr)
                have HEb := HE3.out.trans hxr
                clear hxr E0 E1 BU BV d0 d1
                generalize wr.heap.size = br at *
                generalize wr.alloc (.cells #[.int .u8 (X.kind.toNat : Int), .slice V1 X.body.length V3] 24) = W9 at *
                refine Par.wp_region_par (l := [_, _, _, _, _, _, _]) rfl Ext (Par.VL [Par.EQ (fv X (.slice V1 X.body.length V3)), Par.EQ (Value.slice (some p0) l.length cap), Par.EQ (Value.int IntKind.i64 (k3 : Int)), Par.EQ (Value.pointer (some (p0.add (k3 * 2)))), Par.EQ (fv X (.slice U1 X.body.length U3)), Par.EQ (Value.bool true), Par.EQ (Value.bool false)]) (by kernel_rfl) Ext.refl (fun _ _ _ h1 h2 => Ext.trans h1 h2) (Ext.draw _) (Par.VL_stab ?_) ?_ ?_
                · simp only [List.forall_mem_cons, List.not_mem_nil, false_implies, implies_true, and_true]
                  refine ⟨fun _ _ _ _ h => h, fun _ _ _ _ h => h, fun _ _ _ _ h => h, fun _ _ _ _ h => h, fun _ _ _ _ h => h, fun _ _ _ _ h => h, fun _ _ _ _ h => h⟩
                · refine ⟨⟨fun _ _ => trivial, fun ρ w' hX hG hk => ?_⟩, ?_⟩
                  · obtain ⟨k0, -⟩ := hk
                    have e0 : ρ (.tmp 19) = Value.pointer (some ⟨br, 0, none⟩) := k0
                    clear k0
                    refine Par.val_k fun K hK => ?_
                    unfold Par.val
                    (have c := hX.cell HY.out.1; have c2 := hX.cell HY.out.2.1; go_simp; exact hK _ _ ⟨Ext.refl _, rfl⟩)
                  refine ⟨⟨fun _ _ => trivial, fun ρ w' hX hG hk => ?_⟩, ?_⟩
                  · exact Par.val_of_run rfl ⟨Ext.refl _, hk.1⟩
                  refine ⟨⟨fun _ _ => trivial, fun ρ w' hX hG hk => ?_⟩, ?_⟩
                  · exact Par.val_of_run rfl ⟨Ext.refl _, hk.1⟩
                  refine ⟨⟨fun _ _ => trivial, fun ρ w' hX hG hk => ?_⟩, ?_⟩
                  · obtain ⟨k0, k1, -⟩ := hk
                    have e0 : ρ (.tmp 107) = Value.slice (some p0) l.length cap := k0
                    have e1 : ρ (.tmp 108) = Value.int IntKind.i64 (k3 : Int) := k1
                    clear k0 k1
                    refine Par.val_k fun K hK => ?_
                    unfold Par.val
                    (go_simp; exact hK _ _ ⟨Ext.refl _, rfl⟩)
                  refine ⟨⟨fun _ _ => trivial, fun ρ w' hX hG hk => ?_⟩, ?_⟩
                  · obtain ⟨k0, -⟩ := hk
                    have e0 : ρ (.tmp 109) = Value.pointer (some (p0.add (k3 * 2))) := k0
                    clear k0
                    refine Par.val_k fun K hK => ?_
                    unfold Par.val
                    (have c := hX.cell E0b.out; have c2 := hX.cell E1b.out; go_simp; exact hK _ _ ⟨Ext.refl _, rfl⟩)
                  refine ⟨⟨fun _ _ => trivial, fun ρ w' hX hG hk => ?_⟩, ?_⟩
                  · obtain ⟨k0, k1, k2, -⟩ := hk
                    have e0 := k0
                    have e1 : ρ (.tmp 106) = fv X (.slice V1 X.body.length V3) := k1
                    have e2 : ρ (.tmp 110) = fv X (.slice U1 X.body.length U3) := k2
                    clear k0 k1 k2
                    refine Par.val_k fun K hK => ?_
                    unfold Par.val
                    refine Par.val_call Try.func18 (by kernel_rfl) rfl e0 ?_
                    simp only [List.map_toArray, List.map_cons, List.map_nil, e1, e2]
                    refine (same_any X X _ _ _ (BVb.out.ext hX) (BUb.out.ext hX)).mono ?_
                    rintro e w2 ⟨rfl, h2⟩
                    exact ⟨_, rfl, hK _ _ ⟨h2, (congrArg Value.bool HSB.out)⟩⟩
                  refine ⟨⟨fun _ _ => trivial, fun ρ w' hX hG hk => ?_⟩, ?_⟩
                  · obtain ⟨k0, -⟩ := hk
                    have e0 : ρ (.tmp 111) = Value.bool true := k0
                    clear k0
                    refine Par.val_k fun K hK => ?_
                    unfold Par.val
                    (go_simp; exact hK _ _ ⟨Ext.refl _, rfl⟩)
                  trivial
                intro a' w' inv
                have hX := inv.ext
                have q106 : a'.tmps.getD 106 undef = fv X (.slice V1 X.body.length V3) := inv.done 0 _ 106 rfl rfl rfl
                have q107 : a'.tmps.getD 107 undef = Value.slice (some p0) l.length cap := inv.done 1 _ 107 rfl rfl rfl
                have q108 : a'.tmps.getD 108 undef = Value.int IntKind.i64 (k3 : Int) := inv.done 2 _ 108 rfl rfl rfl
                have q109 : a'.tmps.getD 109 undef = Value.pointer (some (p0.add (k3 * 2))) := inv.done 3 _ 109 rfl rfl rfl
                have q110 : a'.tmps.getD 110 undef = fv X (.slice U1 X.body.length U3) := inv.done 4 _ 110 rfl rfl rfl
                have q111 : a'.tmps.getD 111 undef = Value.bool true := inv.done 5 _ 111 rfl rfl rfl
                have q112 : a'.tmps.getD 112 undef = Value.bool false := inv.done 6 _ 112 rfl rfl rfl
                clear inv
                simp only [List.filterMap_cons, List.filterMap_nil, Par.putAll, Act.put, List.setIfInBounds_toArray, List.set_cons_succ, List.set_cons_zero, q106, q107, q108, q109, q110, q111, q112]
                clear q106 q107 q108 q109 q110 q111 q112
                clear a'
                have HEc := HEb.trans hX
                go_wp2
                go_roundw
                case rel => exact ⟨k3 + 1, by omega, by go_num, HEc⟩
                case measure => simp [intOf]; omega
              · obtain rfl : k3 = F1.length := by omega
                go_wp2
                go_ret
                exact ⟨rfl, hEf.trans HE3.out⟩
end Go.Proofs.Ytbecahknondmeaa
