/- DiskRoom. -/
import Derived.Test.YtkaafllbmeppnaaDskL
set_option linter.unusedSimpArgs false
set_option linter.unusedVariables false
namespace Go.Proofs.Ytkaafllbmeppnaa
open Go Go.RowKit Go.Tum Go.ChangeMaps

set_option maxRecDepth 100000 in
set_option maxHeartbeats 1000000 in
theorem diskRoom_law (room : Int) (v : Value) (m : List AtV) (w : World) (hA : Acts w v m) :
    Calls Try.prog 5 #[.int .i64 room, v] w fun e w' => e = .returned (.bool true) ∧ Ext w w' := by
  have HA := hid hA
  obtain ⟨hrow, hokk⟩ := hA
  obtain ⟨ao, cap, rfl, hle, hm, hnn, hcell⟩ := hrow.open
  have HNN := hid hnn
  clear hrow hokk hcell hnn
  go_enter Try.func5, Try.ntmps5
  go_wp2_with fail
  refine (awake_any _).mono ?_
  rintro e w1 ⟨rfl, hw⟩
  have HE1 := hid hw
  clear hw
  go_wp2_with fail
  refine (dnew_any w1 w.heap.size HE1.out.size room).mono ?_
  intro e w2 hn
  by_cases hr : 16 ≤ room ∧ room ≤ 1048576
  case neg =>
    obtain ⟨rfl, hE⟩ := hn.1 (by omega)
    have HE2 := hid (HE1.out.trans hE)
    clear hn hE hr
    go_wp2
    go_ret
    exact ⟨rfl, HE2.out⟩
  obtain ⟨p, x0, rfl, D, E, -⟩ := hn.2 hr.1 hr.2
  have HR : Hid (16 ≤ room ∧ room ≤ 1048576) := hid hr
  have HE2 := hid (HE1.out.trans E)
  have HD2 := hid D
  clear hn hr D E HE1
  go_wp2_with fail
  refine (large_any _ m w2 ⟨HA.out.1.ext HE2.out, fun q hq => (HA.out.2 q hq).ext HE2.out⟩).mono ?_
  rintro e w3 ⟨⟨r, rfl, hr⟩, hE⟩
  have HE3 : Hid (Ext w w3) := hid (HE2.out.trans hE)
  have HD3 := hid (HD2.out.ext hE)
  clear hE HD2 HE2
  cases r
  case true =>
    clear hr
    go_wp2
    go_ret
    exact ⟨rfl, HE3.out⟩
  have HS := hid (hr rfl)
  clear hr
  go_wp2
  go_loopw [34] (fun i wr => ∃ (k : Nat) (x : DX) (s : PS), k ≤ m.length ∧ i = .int .i64 k ∧ Hid (s.opn.length ≤ k) ∧ Hid ((s.room : Int) = room) ∧ Hid (WF s) ∧ Hid (Dk w.heap.size wr p x s) ∧ Hid (Ext w wr)) (fun i _ => m.length - (intOf i).toNat)
  case atStart => exact ⟨0, x0, _, by omega, rfl, hid (by simp [newP]), hid (by have := HR.out; show ((room.toNat : Nat) : Int) = room; omega), hid (wf_new (by have := HR.out; omega)), HD3, HE3⟩
  case round =>
    obtain ⟨k, x, s, hk, rfl, HO, HM, HW, HD, HE⟩ := hrel
    by_cases hlt : k < m.length
    · obtain ⟨a0, rfl⟩ := HNN.out (by omega)
      obtain ⟨dn, n, name, to, b, ts, uo, uc, vo, vc, hok, hbl, -, c0, c1, c2, c3, c4, c5⟩ := acts_at HA.out HE.out HS.out k hlt
      have hml := HS.out.1
      have HLT := hid hlt
      have hlow := hok.low
      have HOK := hid hok
      have HSM : Hid (b.length ≤ 1000 ∧ k ≤ 40) := hid ⟨hbl, by omega⟩
      have HLOW := hid hlow
      clear hok hlow hbl hml
      have hi1 : decide ((k : Int) < m.length) = true := by simp; omega
      have HE4 := hid (HE.out.trans (Ext.alloc wr (actO (⟨dn, n, name, to, b, ts⟩, .slice uo b.length uc, .slice vo ts.length vc))))
      have HB4 := hid (heap_alloc_new wr (actO (⟨dn, n, name, to, b, ts⟩, .slice uo b.length uc, .slice vo ts.length vc)))
      have HD4 := hid (HD.out.ext (Ext.alloc wr (actO (⟨dn, n, name, to, b, ts⟩, .slice uo b.length uc, .slice vo ts.length vc))))
      have HXL := hid HD.out.lt
      go_wp2_with fail
      clear c0 c1 c2 c3 c4 c5 hi1
      obtain ⟨ab, hab⟩ : ∃ ab, wr.heap.size = ab := ⟨_, rfl⟩
      rw [hab] at HB4 HXL ⊢
      have HAB : Hid (ab < (wr.alloc (actO (⟨dn, n, name, to, b, ts⟩, .slice uo b.length uc, .slice vo ts.length vc))).heap.size) := hid (by rw [← hab]; simp)
      clear hab
      obtain ⟨dw, hdw⟩ : ∃ dw, s.down = dw := ⟨_, rfl⟩
      have HDW := hid hdw
      refine (ddown_any HD4.out).mono ?_
      rintro e w5 ⟨rfl, rfl⟩
      rw [hdw]
      clear hdw
      generalize hW4 : wr.alloc (actO (⟨dn, n, name, to, b, ts⟩, .slice uo b.length uc, .slice vo ts.length vc)) = w4 at *
      clear hW4
      go_wp2_with fail
      refine (dNames_any HD4.out).mono ?_
      rintro e w5 ⟨⟨nv, rfl, ho⟩, hE5⟩
      obtain ⟨NM, hNM⟩ : ∃ NM, s.dir.map Prod.fst = NM := ⟨_, rfl⟩
      rw [hNM] at ho
      have HNMX := hid hNM
      clear hNM
      obtain ⟨no, nc, rfl, -⟩ := ho.vec.open
      have HNM := hid (OwV.mono ho (b' := w4.heap.size) (Nat.le_refl _))
      have HE5 := hid (HE4.out.trans hE5)
      have HB5 := hid (hE5.obj HB4.out)
      have HD5 := hid (HD4.out.ext hE5)
      have HAB5 := hid (Nat.lt_of_lt_of_le HAB.out hE5.size)
      have HX5 : Hid (∀ q ∈ x.blk p, q < w4.heap.size) := hid HD4.out.lt
      clear ho hE5 HB4 HD4 HAB HE4
      go_wp2_with fail
      refine (dheld_any HD5.out).mono ?_
      rintro e w6 ⟨rfl, hE6⟩
      have HNM6 := hid (OwV.ext HNM.out hE6)
      have HE6 := hid (HE5.out.trans hE6)
      have HB6 := hid (hE6.obj HB5.out)
      have HD6 := hid (HD5.out.ext hE6)
      have HAB6 := hid (Nat.lt_of_lt_of_le HAB5.out hE6.size)
      clear hE6 HNM HE5 HB5 HD5 HAB5
      obtain ⟨⟨e0, e1, e2, e3, e4, e5⟩, -⟩ := lk6 HB6.out
      obtain ⟨hs0, hhs0⟩ : ∃ h, held s = h := ⟨_, rfl⟩
      have HH0 := hid hhs0
      rw [hhs0]
      clear hhs0
      go_wp2_with fail
      refine (do_any (B := w.heap.size) (⟨dn, n, name, to, b, ts⟩, .slice uo b.length uc, .slice vo ts.length vc) (HOK.out.ext HE6.out) HD6.out HE6.out.size HW.out (by have := HO.out; have := HSM.out.2; omega) (by have := HSM.out.1; show b.length ≤ 1048576; omega) HLOW.out).mono ?_
      rintro e w7 ⟨⟨rv, rfl, ho⟩, x7, hD7, hF7, hL7, hg7⟩
      dsimp only at hD7 ho ⊢
      obtain ⟨ro, rc, hrv, -⟩ := ho.byt.open
      subst hrv
      have HE7 := hid (Ext.below HE6.out hL7)
      have HB7 := hid ((hF7.block ab HAB6.out (fun hm => by have := HXL.out _ hm; omega)).trans HB6.out)
      have HNM7 : Hid (OwV vN w7 w4.heap.size 9 _ _) := hid (own_keep HNM6.out HX5.out hF7)
      have HD7 := hid hD7
      have HW7 := hid (HW.out.act ⟨dn, n, name, to, b, ts⟩ HOK.out.n)
      have HO7 : Hid ((actS s ⟨dn, n, name, to, b, ts⟩).2.opn.length ≤ k + 1) := hid (by have := HO.out; have := act_opn s ⟨dn, n, name, to, b, ts⟩; omega)
      have HM7 : Hid (((actS s ⟨dn, n, name, to, b, ts⟩).2.room : Int) = room) := hid (by rw [act_room]; exact HM.out)
      clear ho hD7 hF7 hL7 hg7 e0 e1 e2 e3 e4 e5 HE6 HB6 HNM6 HD6 HAB6 HX5 HXL
      obtain ⟨R, hR⟩ : ∃ R, actS s ⟨dn, n, name, to, b, ts⟩ = R := ⟨_, rfl⟩
      have HRR := hid hR
      rw [hR] at HD7 HW7 HO7 HM7 ⊢
      clear hR
      obtain ⟨⟨e0, e1, e2, e3, e4, e5⟩, -⟩ := lk6 HB7.out
      go_wp2_with fail
      refine (dheld_any HD7.out).mono ?_
      rintro e w8 ⟨rfl, hE8⟩
      have HNM8 := hid (OwV.ext HNM7.out hE8)
      have HE8 := hid (HE7.out.trans hE8)
      have HB8 := hid (hE8.obj HB7.out)
      have HD8 := hid (HD7.out.ext hE8)
      clear hE8 HNM7 HE7 HB7 HD7 e0 e1 e2 e3 e4 e5
      obtain ⟨h1, hh1⟩ : ∃ h, held R.2 = h := ⟨_, rfl⟩
      have HH1 := hid hh1
      have hroom : decide (room < (h1 : Int)) = false := by
        have := HW7.out.hd
        have := HM7.out
        simp; omega
      rw [hh1]
      clear hh1
      obtain ⟨⟨e0, e1, e2, e3, e4, e5⟩, -⟩ := lk6 HB8.out
      go_wp2_with fail
      clear hroom
      refine (dheld_any HD8.out).mono ?_
      rintro e w9 ⟨rfl, hE9⟩
      rw [HH1.out]
      have HNM9 := hid (OwV.ext HNM8.out hE9)
      have HE9 := hid (HE8.out.trans hE9)
      have HB9 := hid (hE9.obj HB8.out)
      have HD9 := hid (HD8.out.ext hE9)
      clear hE9 HNM8 HE8 HB8 HD8 e0 e1 e2 e3 e4 e5
      obtain ⟨⟨e0, e1, e2, e3, e4, e5⟩, -⟩ := lk6 HB9.out
      have hneg : decide ((h1 : Int) < 0) = false := by simp
      by_cases h8 : dn = 8
      · subst h8
        obtain rfl : R = (0, crP s n ts) := by rw [← HRR.out]; exact act_crash s rfl
        cases dw
        · go_wp2_with fail
          clear e0 e1 e2 e3 e4 e5
          refine (dNames_any HD9.out).mono ?_
          rintro e w10 ⟨⟨nv2, rfl, ho⟩, hE⟩
          obtain ⟨NL, hNL⟩ : ∃ NL, (crP s n ts).dir.map Prod.fst = NL := ⟨_, rfl⟩
          have HNL := hid hNL
          have hlen : ∀ j (h : j < NL.length), (NL[j]).length ≤ maxLen := by rw [← hNL]; exact fun j h => name_len HW7.out h
          have HLEN := hid hlen
          have hsum : nsum (crP s n ts) NL = h1 := by rw [← hNL, nsum_held HW7.out rfl rfl]; exact HH1.out
          have HSUM := hid hsum
          have hbd : h1 ≤ 1048576 := by have := HW7.out.hd; have := HW7.out.rm; have := HH1.out; omega
          have HBD := hid hbd
          rw [hNL] at ho
          obtain ⟨no2, nc2, rfl, hle2, hm2, hnn2, hcell2⟩ := ho.vec.open
          have HC2 := hid hcell2
          have HNN2 := hid hnn2
          have HE10 := hid (HE9.out.trans hE)
          have HD10 := hid (HD9.out.ext hE)
          have HEX := hid (Ext.refl w10)
          clear ho hE HNM9 HE9 HB9 HD9 hNL hlen hsum hbd hcell2 hnn2
          go_wp2
          go_loopw [14, 98] (fun t i wz => ∃ (j : Nat), j ≤ NL.length ∧ i = .int .i64 j ∧ t = .int .i64 (nsum (crP s n ts) (NL.take j) : Nat) ∧ Hid (Ext w10 wz)) (fun t i _ => NL.length - (intOf i).toNat)
          case atStart => exact ⟨0, by omega, rfl, by simp [nsum], HEX⟩
          case round =>
            obtain ⟨j, hj, rfl, rfl, HZ⟩ := hrel
            by_cases hlj : j < NL.length
            · obtain ⟨a2, rfl⟩ := HNN2.out (by omega)
              have cc := HZ.out.cell (HC2.out a2 rfl j hlj)
              have hi2 : decide ((j : Int) < NL.length) = true := by simp; omega
              obtain ⟨nm, hnm⟩ : ∃ nm, NL[j] = nm := ⟨_, rfl⟩
              have hml := HLEN.out j hlj
              have hsuc := nsum_succ (crP s n ts) NL j hlj
              have hle3 := nsum_take (crP s n ts) NL (j + 1)
              rw [hnm] at cc hml hsuc
              clear hnm
              rw [HSUM.out] at hle3
              obtain ⟨t0, ht0⟩ : ∃ t, nsum (crP s n ts) (NL.take j) = t := ⟨_, rfl⟩
              rw [ht0] at hsuc ⊢
              have HT := hid hsuc
              have HT2 := hid hle3
              clear hsuc hle3 ht0
              go_wp2_with fail
              clear cc hi2
              refine (dread_any nm hml (HD10.out.ext HZ.out)).mono ?_
              rintro e wy ⟨⟨v3, rfl, ho⟩, hE⟩
              obtain ⟨o3, c3, rfl, -⟩ := ho.byt.open
              have HY := hid (HZ.out.trans hE)
              obtain ⟨l3, hl3⟩ : ∃ l, (rdB (crP s n ts) nm).length = l := ⟨_, rfl⟩
              have HT3 := HT.out
              rw [hl3] at HT3 ⊢
              have HT4 := HT2.out
              have HT5 := HBD.out
              go_wp2
              go_roundw
              case rel => exact ⟨j + 1, by omega, by go_num, by rw [HT3]; go_num, HY⟩
              case measure => simp [intOf]; omega
            · obtain rfl : j = NL.length := by omega
              rw [List.take_length, HSUM.out]
              have HDz := hid (HD10.out.ext HZ.out)
              have HEz := hid (HE10.out.trans HZ.out)
              go_wp2_with fail
              refine (dheld_any HDz.out).mono ?_
              rintro e w12 ⟨rfl, hE⟩
              have hhh : held (crP s n ts) = h1 := HH1.out
              rw [hhh]
              have HE12 := hid (HEz.out.trans hE)
              have HD12 := hid (HDz.out.ext hE)
              clear hE HEz HDz hhh
              go_wp2_with fail
              refine (ddown_any HD12.out).mono ?_
              rintro e w13 ⟨rfl, rfl⟩
              have hdd : (crP s n ts).down = false := rfl
              rw [hdd]
              have HE9 := HE12
              have HD9 := HD12
              clear hdd HE12 HD12
              go_wp2
              go_roundw
              case rel => exact ⟨k + 1, _, _, HLT.out, by go_num, HO7, HM7, HW7, HD9, HE9⟩
              case measure =>
                have := HLT.out
                simp [intOf]; omega
        · go_wp2_with fail
          clear e0 e1 e2 e3 e4 e5
          refine (dNames_any HD9.out).mono ?_
          rintro e w10 ⟨⟨nv2, rfl, ho⟩, hE⟩
          obtain ⟨NL, hNL⟩ : ∃ NL, (crP s n ts).dir.map Prod.fst = NL := ⟨_, rfl⟩
          have HNL := hid hNL
          have hlen : ∀ j (h : j < NL.length), (NL[j]).length ≤ maxLen := by rw [← hNL]; exact fun j h => name_len HW7.out h
          have HLEN := hid hlen
          have hsum : nsum (crP s n ts) NL = h1 := by rw [← hNL, nsum_held HW7.out rfl rfl]; exact HH1.out
          have HSUM := hid hsum
          have hbd : h1 ≤ 1048576 := by have := HW7.out.hd; have := HW7.out.rm; have := HH1.out; omega
          have HBD := hid hbd
          rw [hNL] at ho
          obtain ⟨no2, nc2, rfl, hle2, hm2, hnn2, hcell2⟩ := ho.vec.open
          have HC2 := hid hcell2
          have HNN2 := hid hnn2
          have HE10 := hid (HE9.out.trans hE)
          have HD10 := hid (HD9.out.ext hE)
          have HEX := hid (Ext.refl w10)
          clear ho hE HNM9 HE9 HB9 HD9 hNL hlen hsum hbd hcell2 hnn2
          go_wp2
          go_loopw [14, 98] (fun t i wz => ∃ (j : Nat), j ≤ NL.length ∧ i = .int .i64 j ∧ t = .int .i64 (nsum (crP s n ts) (NL.take j) : Nat) ∧ Hid (Ext w10 wz)) (fun t i _ => NL.length - (intOf i).toNat)
          case atStart => exact ⟨0, by omega, rfl, by simp [nsum], HEX⟩
          case round =>
            obtain ⟨j, hj, rfl, rfl, HZ⟩ := hrel
            by_cases hlj : j < NL.length
            · obtain ⟨a2, rfl⟩ := HNN2.out (by omega)
              have cc := HZ.out.cell (HC2.out a2 rfl j hlj)
              have hi2 : decide ((j : Int) < NL.length) = true := by simp; omega
              obtain ⟨nm, hnm⟩ : ∃ nm, NL[j] = nm := ⟨_, rfl⟩
              have hml := HLEN.out j hlj
              have hsuc := nsum_succ (crP s n ts) NL j hlj
              have hle3 := nsum_take (crP s n ts) NL (j + 1)
              rw [hnm] at cc hml hsuc
              clear hnm
              rw [HSUM.out] at hle3
              obtain ⟨t0, ht0⟩ : ∃ t, nsum (crP s n ts) (NL.take j) = t := ⟨_, rfl⟩
              rw [ht0] at hsuc ⊢
              have HT := hid hsuc
              have HT2 := hid hle3
              clear hsuc hle3 ht0
              go_wp2_with fail
              clear cc hi2
              refine (dread_any nm hml (HD10.out.ext HZ.out)).mono ?_
              rintro e wy ⟨⟨v3, rfl, ho⟩, hE⟩
              obtain ⟨o3, c3, rfl, -⟩ := ho.byt.open
              have HY := hid (HZ.out.trans hE)
              obtain ⟨l3, hl3⟩ : ∃ l, (rdB (crP s n ts) nm).length = l := ⟨_, rfl⟩
              have HT3 := HT.out
              rw [hl3] at HT3 ⊢
              have HT4 := HT2.out
              have HT5 := HBD.out
              go_wp2
              go_roundw
              case rel => exact ⟨j + 1, by omega, by go_num, by rw [HT3]; go_num, HY⟩
              case measure => simp [intOf]; omega
            · obtain rfl : j = NL.length := by omega
              rw [List.take_length, HSUM.out]
              have HDz := hid (HD10.out.ext HZ.out)
              have HEz := hid (HE10.out.trans HZ.out)
              go_wp2_with fail
              refine (dheld_any HDz.out).mono ?_
              rintro e w12 ⟨rfl, hE⟩
              have hhh : held (crP s n ts) = h1 := HH1.out
              rw [hhh]
              have HE12 := hid (HEz.out.trans hE)
              have HD12 := hid (HDz.out.ext hE)
              clear hE HEz HDz hhh
              go_wp2_with fail
              refine (ddown_any HD12.out).mono ?_
              rintro e w13 ⟨rfl, rfl⟩
              have hdd : (crP s n ts).down = false := rfl
              rw [hdd]
              have HE9 := HE12
              have HD9 := HD12
              clear hdd HE12 HD12
              go_wp2
              go_roundw
              case rel => exact ⟨k + 1, _, _, HLT.out, by go_num, HO7, HM7, HW7, HD9, HE9⟩
              case measure =>
                have := HLT.out
                simp [intOf]; omega
      have b8 : (dn != 8) = true := by simpa using h8
      by_cases h7 : dn = 7
      · subst h7
        cases dw
        · go_wp2
          go_roundw
          case rel => exact ⟨k + 1, _, _, HLT.out, by go_num, HO7, HM7, HW7, HD9, HE9⟩
          case measure =>
            have := HLT.out
            simp [intOf]; omega
        · go_wp2
          go_roundw
          case rel => exact ⟨k + 1, _, _, HLT.out, by go_num, HO7, HM7, HW7, HD9, HE9⟩
          case measure =>
            have := HLT.out
            simp [intOf]; omega
      have b7 : (dn != 7) = true := by simpa using h7
      cases dw
      · go_wp2
        go_roundw
        case rel => exact ⟨k + 1, _, _, HLT.out, by go_num, HO7, HM7, HW7, HD9, HE9⟩
        case measure =>
          have := HLT.out
          simp [intOf]; omega
      · obtain rfl : R = (7, s) := by rw [← HRR.out]; exact act_down HDW.out _ h7 h8
        go_wp2_with fail
        refine (ddown_any HD9.out).mono ?_
        rintro e w10 ⟨rfl, rfl⟩
        rw [HDW.out]
        go_wp2_with fail
        refine (dNames_any HD9.out).mono ?_
        rintro e w10 ⟨⟨nv2, rfl, ho⟩, hE⟩
        rw [HNMX.out] at ho
        obtain ⟨no2, nc2, rfl, -⟩ := ho.vec.open
        have HV2 := hid ho.vec
        have HNM10 := hid (OwV.vec (OwV.ext HNM9.out hE))
        have HE10 := hid (HE9.out.trans hE)
        have HB10 := hid (hE.obj HB9.out)
        have HD10 := hid (HD9.out.ext hE)
        clear ho hE HNM9 HE9 HB9 HD9 e0 e1 e2 e3 e4 e5
        go_wp2_with fail
        refine (rsames_any _ _ NM NM _ HV2.out HNM10.out).mono ?_
        rintro e w11 ⟨rfl, hE⟩
        have hself : (NM == NM) = true := by simp
        rw [hself]
        have HE11 := hid (HE10.out.trans hE)
        have HB11 := hid (hE.obj HB10.out)
        have HD11 := hid (HD10.out.ext hE)
        clear hE HE10 HB10 HD10 hself HV2 HNM10
        go_wp2_with fail
        refine (dheld_any HD11.out).mono ?_
        rintro e w12 ⟨rfl, hE⟩
        have hhh : held s = hs0 := HH0.out
        rw [hhh]
        have HE9 := hid (HE11.out.trans hE)
        have HB9 := hid (hE.obj HB11.out)
        have HD9 := hid (HD11.out.ext hE)
        clear hE HE11 HB11 HD11 hhh
        obtain ⟨⟨e0, e1, e2, e3, e4, e5⟩, -⟩ := lk6 HB9.out
        go_wp2
        go_roundw
        case rel => exact ⟨k + 1, _, _, HLT.out, by go_num, HO7, HM7, HW7, HD9, HE9⟩
        case measure =>
          have := HLT.out
          simp [intOf]; omega
    · obtain rfl : k = m.length := by omega
      go_wp2
      go_ret
      exact ⟨rfl, HE.out⟩
end Go.Proofs.Ytkaafllbmeppnaa
