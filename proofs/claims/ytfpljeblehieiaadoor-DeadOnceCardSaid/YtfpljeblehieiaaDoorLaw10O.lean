/- DeadOnce. -/
import Derived.Test.YtfpljeblehieiaaDoorDedT
set_option linter.unusedSimpArgs false
set_option linter.unusedVariables false
namespace Go.Proofs.YtfpljeblehieiaaDoor
open Go Go.RowKit Go.Tum Go.ChangeMaps Go.Sort Go.Tum.Rn

theorem tmod3 (n : Int) : -3 < n.tmod 3 ∧ n.tmod 3 < 3 := ⟨Int.lt_tmod_of_pos n (by decide), Int.tmod_lt_of_pos n (by decide)⟩
theorem rw_vec {w : World} {B : Nat} {v : Value} {l : List UInt64} (h : Rw w B v l) : Vec uv w v l := Sl.of_owns h
theorem nextD_ids (s : PD) (x : Nm) (n : Int) : (nextD s x n).1.length ≤ s.rows.length := by
  unfold nextD
  repeat' split
  · simp
  · simp
  · dsimp only
    rw [List.length_map]
    unfold tookR
    exact Nat.le_trans (List.length_take_le' _ _) (List.length_filter_le _ _)
set_option maxRecDepth 100000 in
set_option maxHeartbeats 4000000 in
theorem deadOnce_law (v : Value) (m : List AtD) (one two : Nm) (w : World) (hA : ActsD w v m) (h1 : one.length ≤ 140737488355328) (h2 : two.length ≤ 140737488355328) (ht : TB w) :
    Calls Tryd.prog 6 #[v, vN one, vN two] w fun e w' => e = .returned (.bool true) ∧ Ext w w' := by
  have HA := hid hA
  have HT := hid ht
  obtain ⟨hrow, hokk⟩ := hA
  obtain ⟨ao, cap, rfl, hle, hm, hnn, hcell⟩ := hrow.open
  have HNN := hid hnn
  have HC := hid hcell
  have H1 := hid h1
  have H2 := hid h2
  have hs1 : (str one).size = one.length := str_size one
  have hs2 : (str two).size = two.length := str_size two
  clear hrow hokk hcell hnn ht
  go_enter Tryd.func6, Tryd.ntmps6
  go_wp2_with fail
  refine (dawake_any w HT.out).mono ?_
  rintro e w1 ⟨rfl, hx⟩
  have HE1 := hid hx
  clear hx
  go_wp2_with fail
  refine (dlarge_any _ m w1 (HA.out.ext HE1.out)).mono ?_
  rintro e w2 ⟨⟨r, rfl, hr⟩, hx⟩
  have HE2 := hid (HE1.out.trans hx)
  clear hx
  cases r
  case true =>
    clear hr
    go_wp2
    go_returns
    exact ⟨rfl, HE2.out⟩
  have HS := hid (hr rfl)
  clear hr
  by_cases hbig : 100 < one.length + two.length
  · have hd : decide ((100 : Int) < (one.length : Int) + (two.length : Int)) = true := by simp; omega
    clear hbig
    go_wp2
    go_returns
    exact ⟨rfl, HE2.out⟩
  have hd : decide ((100 : Int) < (one.length : Int) + (two.length : Int)) = false := by simp; omega
  have HLN : Hid (one.length ≤ 100 ∧ two.length ≤ 100) := hid (by omega)
  have HF1 := hid (fold_lenD one)
  have HF2 := hid (fold_lenD two)
  go_wp2_with fail
  clear hbig hd hs1 hs2 h1 h2
  refine (rfold3_any one w2 (by have := HLN.out; omega)).mono ?_
  rintro e w3 ⟨rfl, hx⟩
  have HE3 := hid (HE2.out.trans hx)
  clear hx
  go_wp2_with fail
  refine (rright3_any (foldL one) w3 (by have := HLN.out; have := HF1.out; omega)).mono ?_
  rintro e w4 ⟨rfl, hx⟩
  have HE4 := hid (HE3.out.trans hx)
  clear hx
  cases hr1 : rightL (foldL one)
  case false =>
    clear hr1
    go_wp2
    go_returns
    exact ⟨rfl, HE4.out⟩
  have HR1 := hid hr1
  clear hr1
  go_wp2_with fail
  refine (rfold3_any two w4 (by have := HLN.out; omega)).mono ?_
  rintro e w5 ⟨rfl, hx⟩
  have HE5 := hid (HE4.out.trans hx)
  clear hx
  go_wp2_with fail
  refine (rright3_any (foldL two) w5 (by have := HLN.out; have := HF2.out; omega)).mono ?_
  rintro e w6 ⟨rfl, hx⟩
  have HE6 := hid (HE5.out.trans hx)
  clear hx
  cases hr2 : rightL (foldL two)
  case false =>
    clear hr2
    go_wp2
    go_returns
    exact ⟨rfl, HE6.out⟩
  have HR2 := hid hr2
  clear hr2
  go_wp2_with fail
  refine (rfold3_any one w6 (by have := HLN.out; omega)).mono ?_
  rintro e w7 ⟨rfl, hx⟩
  have HE7 := hid (HE6.out.trans hx)
  clear hx
  go_wp2_with fail
  refine (rfold3_any two w7 (by have := HLN.out; omega)).mono ?_
  rintro e w8 ⟨rfl, hx⟩
  have HE8 := hid (HE7.out.trans hx)
  clear hx
  obtain ⟨b8, hb8⟩ : ∃ b, (foldL one == foldL two) = b := ⟨_, rfl⟩
  have HB8 := hid hb8
  cases b8
  case true =>
    go_wp2
    go_returns
    exact ⟨rfl, HE8.out⟩
  have HNE : Hid (foldL one ≠ foldL two) := hid (by simpa using hb8)
  go_wp2_with fail
  clear hb8
  refine (dnew_any w8).mono ?_
  rintro e w9 ⟨⟨p1, m1, s1, rfl, hD, hp, hmp, hms⟩, hx⟩
  have HDA := hid hD
  have HLA := hid (And.intro hp (And.intro hmp hms))
  have HE9 := hid (HE8.out.trans hx)
  clear hD hp hmp hms hx
  go_wp2_with fail
  refine (dnew_any w9).mono ?_
  rintro e w10 ⟨⟨p2, m2, s2, rfl, hD, hp, hmp, hms⟩, hx⟩
  have HO : Hid (O3 w w10 p1 m1 s1 p2 m2 s2 newD newD (.slice none 0 0) (.slice none 0 0) (.slice none 0 0) [] [] []) := hid (by
    have hlt := HDA.out.lt
    have hla := HLA.out
    have hw8 := HE8.out.size
    have hw9 := HE9.out.size
    refine ⟨HDA.out.ext hx, hD, ?_, ?_, World.ownsRow_nil _ _ _ _, World.ownsRow_nil _ _ _ _, World.ownsRow_nil _ _ _ _, by simp [oB, Value.ownBlock], by simp [oB, Value.ownBlock], by simp [oB, Value.ownBlock], HE9.out.trans hx⟩
    · simp; omega
    · simp; omega)
  clear hD hp hmp hms hx HDA HLA HE9
  go_wp2
  go_loopw [9, 10, 11, 54] (fun va vt vl iv wr => ∃ (k : Nat) (sA sB : PD) (oa ot ol : Option Addr) (ca ct cl : Nat) (all told alone : List UInt64), k ≤ m.length ∧ iv = .int .i64 (k : Int) ∧ va = .slice oa all.length ca ∧ vt = .slice ot told.length ct ∧ vl = .slice ol alone.length cl ∧
    Hid (O3 w wr p1 m1 s1 p2 m2 s2 sA sB (.slice oa all.length ca) (.slice ot told.length ct) (.slice ol alone.length cl) all told alone) ∧ Hid (Onc k sA (foldL one) (foldL two) all told) ∧ Hid (Onc k sB (foldL one) (foldL two) all alone)) (fun _ _ _ iv _ => m.length - (intOf iv).toNat)
  case atStart => exact ⟨0, newD, newD, none, none, none, 0, 0, 0, [], [], [], by omega, rfl, rfl, rfl, rfl, HO, hid (Onc.new _ _), hid (Onc.new _ _)⟩
  case round =>
    clear HO
    obtain ⟨k, sA, sB, oa, ot, ol, ca, ct, cl, all, told, alone, hk, rfl, rfl, rfl, rfl, HO, HNA, HNB⟩ := hrel
    have HLL : Hid (all.length ≤ k ∧ told.length ≤ k ∧ alone.length ≤ k ∧ k ≤ 200) := hid (by
      have e1 := HNA.out.few.rows
      have e2 := HNA.out.rows
      have e3 := HNB.out.few.rows
      have e4 := HNA.out.told
      have e5 := HNB.out.told
      have e6 := HS.out.1
      have a1 : all.length = sA.rows.length := by rw [← e2, List.length_map]
      have a2 : told.length ≤ sA.rows.length := by rw [← e4]; unfold toldOf; rw [List.length_map]; exact List.length_filter_le _ _
      have a3 : alone.length ≤ sB.rows.length := by rw [← e5]; unfold toldOf; rw [List.length_map]; exact List.length_filter_le _ _
      omega)
    by_cases hlt : k < m.length
    · obtain ⟨a0, rfl⟩ := HNN.out (by omega)
      have hE := HO.out.ext
      have c0 := cell_first (hE.cell (HC.out a0 rfl k hlt 0 _ rfl))
      have c1 := cell_next (hE.cell (HC.out a0 rfl k hlt 1 _ rfl)) (by decide)
      have c2 := cell_next (hE.cell (HC.out a0 rfl k hlt 2 _ rfl)) (by decide)
      have c3 := cell_next (hE.cell (HC.out a0 rfl k hlt 3 _ rfl)) (by decide)
      have hqn := HA.out.2 m[k] (List.getElem_mem hlt)
      obtain ⟨q, hq⟩ : ∃ q, m[k] = q := ⟨_, rfl⟩
      rw [hq] at c0 c1 c2 c3 hqn
      clear hq hE
      obtain ⟨dn, id, name, n⟩ := q
      dsimp only at c0 c1 c2 c3 hqn
      have HQN := hid hqn
      have hi1 : decide ((k : Int) < m.length) = true := by simp; omega
      have HK := hid hlt
      have hbx := heap_alloc_new wr (actOD ⟨dn, id, name, n⟩)
      have HBX := hid hbx
      obtain ⟨q0, -, -, -⟩ := lk4 hbx
      have HO2 := hid (HO.out.fr (Ext.alloc wr (actOD ⟨dn, id, name, n⟩)))
      clear hbx HO hqn
      by_cases hd0 : dn = 0
      · subst hd0

        go_wp2_with fail
        clear q0 c0 c1 c2 c3
        obtain ⟨bx, hbx⟩ : ∃ b, wr.heap.size = b := ⟨_, rfl⟩
        rw [hbx] at HBX ⊢
        clear hbx
        generalize wr.alloc (actOD ⟨0, id, name, n⟩) = W1 at *
        have hadd := HNA.out.add id (by have := HLL.out; omega)
        have haddB := HNB.out.add id (by have := HLL.out; omega)
        have HADD := hid hadd.2
        have HADDB := hid haddB.2
        refine (dadd_any id HO2.out.a (by have := HNA.out.few.rows; have := HLL.out; omega)).mono ?_
        rintro e w12 ⟨rfl, hd, hf⟩
        rw [hadd.1]
        have HO3 := hid (HO2.out.actA hd hf)
        have HBX3 := hid (HO2.out.kA hf HBX.out)
        clear hd hf hadd haddB
        have q1 := (lk4 HBX3.out).2.1
        by_cases hin : id ∈ all
        · rw [decide_eq_true hin]
          have HIN := hid hin
          go_wp2_with fail
          refine (dadd_any id HO3.out.b (by have := HNB.out.few.rows; have := HLL.out; omega)).mono ?_
          rintro e w13 ⟨rfl, hd, hf⟩
          have HOZ := hid (HO3.out.actB hd hf)
          clear hd hf q1
          go_wp2
          go_roundw
          case rel => exact ⟨k + 1, (addD sA id).2, (addD sB id).2, oa, ot, ol, ca, ct, cl, all, told, alone, by have := HK.out; omega, by go_num, by first | rfl | simp, by first | rfl | simp, by first | rfl | simp, HOZ, hid (by have := HADD.out; rw [if_pos HIN.out] at this; exact this), hid (by have := HADDB.out; rw [if_pos HIN.out] at this; exact this)⟩
          case measure =>
            have := HK.out
            show m.length - ((k : Int) + 1).toNat < m.length - ((k : Int)).toNat
            omega
        · rw [decide_eq_false hin]
          have HIN := hid hin
          have HO3a := hid (HO3.out.fr (Ext.alloc w12 (.cells #[vU id] 29 (0, 0))))
          have HBX3a := hid ((Ext.alloc w12 (.cells #[vU id] 29 (0, 0))).obj HBX3.out)
          go_wp2_with (at_builtin; refine wpList_append_ids_at rfl (.tmp 66) (.tmp 69) 35 rfl w.heap.size 29 Tryd.underlying35 infoU64 rfl HO3a.out.ra rfl (Vec.one _ _ _ id rfl) (all ++ [id]).length (by simp) (by have := HLL.out; simp; omega) (by have := HO3.out.ext.size; simp; omega) ?_; intro ao2 cap2 w14 hO hg hat; have HO4 := hid (HO3a.out.addAll hO hg hat); have HBX4 := hid (fr_at hg HBX3a.out (row_noact HO3a.out.ra HBX3a.out)); clear hO hg hat; have q2 := (lk4 HBX4.out).2.1)
          refine (dadd_any id HO4.out.b (by have := HNB.out.few.rows; have := HLL.out; omega)).mono ?_
          rintro e w15 ⟨rfl, hd, hf⟩
          have HOZ := hid (HO4.out.actB hd hf)
          clear hd hf q1 q2
          go_wp2
          go_roundw
          case rel => exact ⟨k + 1, (addD sA id).2, (addD sB id).2, ao2, ot, ol, cap2, ct, cl, (all ++ [id]), told, alone, by have := HK.out; omega, by go_num, by first | rfl | simp, by first | rfl | simp, by first | rfl | simp, HOZ, hid (by have := HADD.out; rw [if_neg HIN.out] at this; exact this), hid (by have := HADDB.out; rw [if_neg HIN.out] at this; exact this)⟩
          case measure =>
            have := HK.out
            show m.length - ((k : Int) + 1).toNat < m.length - ((k : Int)).toNat
            omega

      · by_cases hd2 : dn = 2
        · subst hd2
          go_wp2_with fail
          clear q0 c0 c1 c2 c3
          obtain ⟨bx, hbx⟩ : ∃ b, wr.heap.size = b := ⟨_, rfl⟩
          try rw [hbx] at HBX
          try rw [hbx]
          clear hbx
          generalize wr.alloc (actOD ⟨2, id, name, n⟩) = W1 at *
          obtain ⟨ia, hia⟩ : ∃ l, (nextD sA one n).1 = l := ⟨_, rfl⟩
          have HIA := hid hia
          have HIL : Hid (ia.length ≤ 200) := hid (by rw [← hia]; have := nextD_ids sA one n; have := HNA.out.few.rows; have := HLL.out; omega)
          have hc := dnext_any one n HQN.out.1.1 HQN.out.1.2 HO2.out.a HNA.out.few.wd (TBx HT.out HO2.out.ext) (by have := HLN.out; omega)
          rw [hia] at hc
          refine hc.mono ?_
          clear hc hia
          rintro e w12 ⟨⟨u, rfl, ho⟩, hd, hf⟩
          obtain ⟨uo, uc, rfl⟩ := row_shape ho
          have HV3 := hid (vec_ids ho)
          have HO3 := hid (HO2.out.actA hd hf)
          have HBX3 := hid (HO2.out.kA hf HBX.out)
          have HN3 := hid (HNA.out.next n HR1.out)
          have q3 := (lk4 HBX3.out).2.2.2
          clear hd hf ho
          go_wp2_with (at_builtin; refine wpList_append_ids_at rfl (.tmp 85) (.tmp 86) 35 rfl w.heap.size 29 Tryd.underlying35 infoU64 rfl HO3.out.rt rfl HV3.out (told ++ ia).length (by simp) (by have := HLL.out; have := HIL.out; simp; omega) HO3.out.ext.size ?_; intro ao2 cap2 w13 hO hg hat; have HO4 := hid (HO3.out.addTold hO hg hat); have HBX4 := hid (fr_at hg HBX3.out (row_noact HO3.out.rt HBX3.out)); clear hO hg hat q3; have q4 := (lk4 HBX4.out).2.2.2)
          refine (dnext_any two _ (by have := tmod3 n; omega) (by have := tmod3 n; omega) HO4.out.a HN3.out.few.wd (TBx HT.out HO4.out.ext) (by have := HLN.out; omega)).mono ?_
          rintro e w14 ⟨⟨u2, rfl, ho⟩, hd, hf⟩
          obtain ⟨u2o, u2c, rfl⟩ := row_shape ho
          have HO5 := hid (HO4.out.actA hd hf)
          have HBX5 := hid (HO4.out.kA hf HBX4.out)
          have HN5 := hid (HN3.out.other HNE.out (n.tmod 3) HR2.out)
          have q5 := (lk4 HBX5.out).2.2.2
          clear hd hf ho q4
          obtain ⟨ib, hib⟩ : ∃ l, (nextD sB one n).1 = l := ⟨_, rfl⟩
          have HIB := hid hib
          have HIL2 : Hid (ib.length ≤ 200) := hid (by rw [← hib]; have := nextD_ids sB one n; have := HNB.out.few.rows; have := HLL.out; omega)
          go_wp2_with fail
          have hc := dnext_any one n HQN.out.1.1 HQN.out.1.2 HO5.out.b HNB.out.few.wd (TBx HT.out HO5.out.ext) (by have := HLN.out; omega)
          rw [hib] at hc
          refine hc.mono ?_
          clear hc hib q5
          rintro e w15 ⟨⟨u3, rfl, ho⟩, hd, hf⟩
          obtain ⟨u3o, u3c, rfl⟩ := row_shape ho
          have HV6 := hid (vec_ids ho)
          have HO6 := hid (HO5.out.actB hd hf)
          have HN6 := hid (HNB.out.next n HR1.out)
          clear hd hf ho
          go_wp2_with (at_builtin; refine wpList_append_ids_at rfl (.tmp 102) (.tmp 103) 35 rfl w.heap.size 29 Tryd.underlying35 infoU64 rfl HO6.out.rl rfl HV6.out (alone ++ ib).length (by simp) (by have := HLL.out; have := HIL2.out; simp; omega) HO6.out.ext.size ?_; intro ao3 cap3 w16 hO hg hat; have HOZ := hid (HO6.out.addAlone hO hg hat); clear hO hg hat)
          go_roundw
          case rel => exact ⟨k + 1, (nextD (nextD sA one n).2.2 two (n.tmod 3)).2.2, (nextD sB one n).2.2, oa, ao2, ao3, ca, cap2, cap3, all, (told ++ ia), (alone ++ ib), by have := HK.out; omega, by go_num, by first | rfl | simp, by first | rfl | simp, by first | rfl | simp, HOZ, hid (by have := HN5.out; rw [HIA.out] at this; exact this.mono (by omega)), hid (by have := HN6.out; rw [HIB.out] at this; exact this.mono (by omega))⟩
          case measure =>
            have := HK.out
            show m.length - ((k : Int) + 1).toNat < m.length - ((k : Int)).toNat
            omega
        · have d0 : (dn == 0) = false := by simpa using hd0
          have d2 : (dn == 2) = false := by simpa using hd2
          go_wp2
          have HOZ := HO2
          go_roundw
          case rel => exact ⟨k + 1, sA, sB, oa, ot, ol, ca, ct, cl, all, told, alone, by have := HK.out; omega, by go_num, by first | rfl | simp, by first | rfl | simp, by first | rfl | simp, HOZ, hid (HNA.out.mono (by omega)), hid (HNB.out.mono (by omega))⟩
          case measure =>
            have := HK.out
            show m.length - ((k : Int) + 1).toNat < m.length - ((k : Int)).toNat
            omega
    · have hkf : decide ((k : Int) < (m.length : Int)) = false := by simp; omega
      obtain rfl : k = m.length := by omega
      have HKL := hid HS.out.1
      have hfA := HNA.out.fin HR1.out HKL.out
      have hfB := HNB.out.fin HR1.out HKL.out
      have HFA := hid hfA.1
      have HFB := hid hfB.1
      obtain ⟨ia, hia⟩ : ∃ l, (nextD sA one 200).1 = l := ⟨_, rfl⟩
      obtain ⟨ib, hib⟩ : ∃ l, (nextD sB one 200).1 = l := ⟨_, rfl⟩
      have HIA : Hid (told ++ ia = all) := hid (by have := HFA.out; rw [hia] at this; exact this)
      have HIB : Hid (alone ++ ib = all) := hid (by have := HFB.out; rw [hib] at this; exact this)
      go_wp2_with fail
      have hc := dnext_any one 200 (by decide) (by decide) HO.out.a HNA.out.few.wd (TBx HT.out HO.out.ext) (by have := HLN.out; omega)
      rw [hia, hfA.2] at hc
      refine hc.mono ?_
      clear hc hia hfA
      rintro e w12 ⟨⟨u, rfl, ho⟩, hd, hf⟩
      obtain ⟨uo, uc, rfl⟩ := row_shape ho
      have HV3 := hid (vec_ids ho)
      have HO3 := hid (HO.out.actA hd hf)
      clear hd hf ho
      go_wp2_with (at_builtin; refine wpList_append_ids_at rfl (.tmp 112) (.tmp 113) 35 rfl w.heap.size 29 Tryd.underlying35 infoU64 rfl HO3.out.rt rfl HV3.out all.length (by have := congrArg List.length HIA.out; simp at this; omega) (by have := HLL.out; omega) HO3.out.ext.size ?_; intro ao2 cap2 w13 hO hg hat; rw [HIA.out] at hO; have HO4 := hid (HO3.out.addTold hO hg hat); clear hO hg hat)
      have hc := dnext_any one 200 (by decide) (by decide) HO4.out.b HNB.out.few.wd (TBx HT.out HO4.out.ext) (by have := HLN.out; omega)
      rw [hib, hfB.2] at hc
      refine hc.mono ?_
      clear hc hib hfB
      rintro e w14 ⟨⟨u2, rfl, ho⟩, hd, hf⟩
      obtain ⟨u2o, u2c, rfl⟩ := row_shape ho
      have HV5 := hid (vec_ids ho)
      have HO5 := hid (HO4.out.actB hd hf)
      clear hd hf ho
      go_wp2_with (at_builtin; refine wpList_append_ids_at rfl (.tmp 121) (.tmp 122) 35 rfl w.heap.size 29 Tryd.underlying35 infoU64 rfl HO5.out.rl rfl HV5.out all.length (by have := congrArg List.length HIB.out; simp at this; omega) (by have := HLL.out; omega) HO5.out.ext.size ?_; intro ao3 cap3 w15 hO hg hat; rw [HIB.out] at hO; have HO6 := hid (HO5.out.addAlone hO hg hat); clear hO hg hat)
      have hc := rsame64_any _ _ all all w15 (rw_vec HO6.out.rt) (rw_vec HO6.out.ra)
      rw [show (all == all) = true from by simp] at hc
      refine hc.mono ?_
      clear hc
      rintro e w16 ⟨rfl, hx⟩
      have HO7 := hid (HO6.out.fr hx)
      clear hx
      go_wp2_with fail
      have hc := rsame64_any _ _ all all w16 (rw_vec HO7.out.rl) (rw_vec HO7.out.ra)
      rw [show (all == all) = true from by simp] at hc
      refine hc.mono ?_
      clear hc
      rintro e w17 ⟨rfl, hx⟩
      have HE17 := hid (HO7.out.ext.trans hx)
      clear hx
      go_wp2
      go_returns
      exact ⟨rfl, HE17.out⟩
end Go.Proofs.YtfpljeblehieiaaDoor
