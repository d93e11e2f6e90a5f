/- DeadAgain. -/
import Derived.Test.YtfpljeblehieiaaDoorDedY
set_option linter.unusedSimpArgs false
set_option linter.unusedVariables false
namespace Go.Proofs.YtfpljeblehieiaaDoor
open Go Go.RowKit Go.Tum Go.ChangeMaps Go.Sort Go.Tum.Rn

set_option maxRecDepth 100000 in
set_option maxHeartbeats 4000000 in
theorem deadAgain_law (v u : Value) (m l : List AtD) (w : World) (hA : ActsD w v m) (hB : ActsD w u l) (ht : TB w) :
    Calls Tryd.prog 5 #[v, u] w fun e w' => e = .returned (.bool true) ∧ Ext w w' := by
  have HA := hid hA
  have HAB := hid hB
  have HT := hid ht
  obtain ⟨hrow, hokk⟩ := hA
  obtain ⟨ao, cap, rfl, hle, hm, hnn, hcell⟩ := hrow.open
  have HNN := hid hnn
  have HC := hid hcell
  clear hrow hokk hcell hnn
  obtain ⟨hrow, hokk⟩ := hB
  obtain ⟨bo, cbp, rfl, hle2, hm2, hnn, hcell⟩ := hrow.open
  have HNN2 := hid hnn
  have HC2 := hid hcell
  clear hrow hokk hcell hnn ht
  go_enter Tryd.func5, Tryd.ntmps5
  go_wp2_with fail
  refine (dawake_any w HT.out).mono ?_
  rintro e w1 ⟨rfl, hx⟩
  have HE1 := hid hx
  clear hx
  go_wp2_with fail
  refine (dlarge_any _ m w1 (HA.out.ext HE1.out)).mono ?_
  rintro e w2 ⟨⟨r, rfl, hr⟩, hx⟩
  have HE2 := hid (HE1.out.trans hx)
  clear hx
  cases r
  case true =>
    clear hr
    go_wp2
    go_returns
    exact ⟨rfl, HE2.out⟩
  have HS := hid (hr rfl)
  clear hr
  go_wp2_with fail
  refine (dlarge_any _ l w2 (HAB.out.ext HE2.out)).mono ?_
  rintro e w3 ⟨⟨r, rfl, hr⟩, hx⟩
  have HE3 := hid (HE2.out.trans hx)
  clear hx
  cases r
  case true =>
    clear hr
    go_wp2
    go_returns
    exact ⟨rfl, HE3.out⟩
  have HS2 := hid (hr rfl)
  clear hr
  go_wp2_with fail
  refine (dnew_any w3).mono ?_
  rintro e w4 ⟨⟨p1, m1, s1, rfl, hD, hp, hmp, hms⟩, hx⟩
  have HD := hid hD
  have HLO : Hid (w.heap.size ≤ p1 ∧ w.heap.size ≤ m1 ∧ w.heap.size ≤ s1) := hid (by have := HE3.out.size; omega)
  have HE4 := hid (HE3.out.trans hx)
  clear hD hp hmp hms hx
  have HFE : Hid (∀ (w0 w' : World), Ext w w0 → Fr [p1, m1, s1] w0 w' → Ext w w') := hid (fun w0 w' hx hf => Below.trans hx (hf.below (by have := HLO.out; simp; omega) hx.size))
  go_wp2
  go_loopw [29] (fun iv wr => ∃ (k : Nat) (s : PD), k ≤ m.length ∧ iv = .int .i64 (k : Int) ∧ Hid (DD wr p1 m1 s1 s) ∧ Hid (Few k s) ∧ Hid (Ext w wr)) (fun iv _ => m.length - (intOf iv).toNat)
  case atStart => exact ⟨0, newD, by omega, rfl, HD, hid ⟨WD.new, by simp, by simp⟩, HE4⟩
  case round =>
    clear HD HE4
    obtain ⟨k, s, hk, rfl, HD, HF, HE⟩ := hrel
    by_cases hlt : k < m.length
    · obtain ⟨a0, rfl⟩ := HNN.out (by omega)
      have hE := HE.out
      have c0 := cell_first (hE.cell (HC.out a0 rfl k hlt 0 _ rfl))
      have c1 := cell_next (hE.cell (HC.out a0 rfl k hlt 1 _ rfl)) (by decide)
      have c2 := cell_next (hE.cell (HC.out a0 rfl k hlt 2 _ rfl)) (by decide)
      have c3 := cell_next (hE.cell (HC.out a0 rfl k hlt 3 _ rfl)) (by decide)
      have hqn := HA.out.2 m[k] (List.getElem_mem hlt)
      have hqs := HS.out.2 m[k] (List.getElem_mem hlt)
      obtain ⟨q, hq⟩ : ∃ q, m[k] = q := ⟨_, rfl⟩
      rw [hq] at c0 c1 c2 c3 hqn hqs
      clear hq hE
      have HQN := hid hqn
      have HQS := hid hqs
      have HK := hid hlt
      have hi1 : decide ((k : Int) < m.length) = true := by simp; omega
      have hbx := heap_alloc_new wr (actOD q)
      obtain ⟨q0, q1, q2, q3⟩ := lk4 hbx
      have hxa := Ext.alloc wr (actOD q)
      have HD2 := hid (HD.out.ext hxa)
      have HE5 := hid (HE.out.trans hxa)
      clear hbx hxa HD HE hqn hqs
      go_wp2_with fail
      refine (ddo_any q HD2.out HF.out (by have := HS.out.1; have := HK.out; omega) (TBx HT.out HE5.out) HQS.out HQN.out.1).mono ?_
      clear q0 q1 q2 q3 c0 c1 c2 c3
      rintro e w6 ⟨⟨x, rfl, -⟩, hd, hf⟩
      have HD6 := hid hd
      have HE6 := hid (HFE.out _ _ HE5.out hf)
      have HF6 := hid (HF.out.act q (by have := HS.out.1; have := HK.out; omega))
      clear hd hf
      go_wp2
      go_roundw
      case rel => exact ⟨k + 1, _, by have := HK.out; omega, by go_num, HD6, HF6, HE6⟩
      case measure =>
        have := HK.out
        show m.length - ((k : Int) + 1).toNat < m.length - ((k : Int)).toNat
        omega
    · have hkf : decide ((k : Int) < (m.length : Int)) = false := by simp; omega
      have HKL : Hid (k ≤ 200) := hid (by have := HS.out.1; omega)
      go_wp2_with fail
      refine (dlast_any HD.out).mono ?_
      rintro e w7 ⟨rfl, rfl⟩
      go_wp2_with fail
      have hc := dall_any HD.out
      rw [HF.out.wd.all] at hc
      refine hc.mono ?_
      clear hc
      rintro e w8 ⟨⟨r, rfl, ho⟩, hx⟩
      obtain ⟨ro, rc, rfl⟩ := row_shape ho
      have HR8 := hid ho
      have HD8 := hid (HD.out.ext hx)
      have HE8 := hid (HE.out.trans hx)
      clear ho hx
      go_wp2_with fail
      refine (dcursors_any HD8.out HF.out.wd (TBx HT.out HE8.out)).mono ?_
      rintro e w9 ⟨⟨c, rfl, ho⟩, hx⟩
      obtain ⟨co, cc, rfl⟩ := row_shape ho
      have HC9 := hid ho
      have HR9 := hid (ids_ext HR8.out hx)
      have HD9 := hid (HD8.out.ext hx)
      have HE9 := hid (HE8.out.trans hx)
      clear ho hx
      go_wp2_with fail
      have hc := dfrom_any s.last s.rows s.seen (Sl.of_owns HR9.out) (Sl.of_owns HC9.out) (TBx HT.out HE9.out) (by have := HF.out.rows; have := HKL.out; omega) (fun z hz => by have := right_len (HF.out.wd.sr z hz).1; omega)
      rw [from_own HF.out.wd HD.out.nr] at hc
      refine hc.mono ?_
      clear hc
      rintro e w10 ⟨⟨p2, m2, s2, rfl, hd, hp, hmp, hms⟩, hx⟩
      have HO : Hid (O3 w w10 p1 m1 s1 p2 m2 s2 s s (.slice none 0 0) (.slice none 0 0) (.slice none 0 0) [] [] []) := hid (by
        have hlt := HD9.out.lt
        have hlo := HLO.out
        have hw9 := HE9.out.size
        refine ⟨HD9.out.ext hx, hd, ?_, ?_, World.ownsRow_nil _ _ _ _, World.ownsRow_nil _ _ _ _, World.ownsRow_nil _ _ _ _, by simp [oB, Value.ownBlock], by simp [oB, Value.ownBlock], by simp [oB, Value.ownBlock], HE9.out.trans hx⟩
        · simp; omega
        · simp; omega)
      clear hd hp hmp hms hx HD9 HR9 HC9 HE9 HD8 HR8 HE8 HD HE
      go_wp2
      go_loopw [55] (fun iv wr => ∃ (j : Nat) (s : PD), j ≤ l.length ∧ iv = .int .i64 (j : Int) ∧ Hid (O3 w wr p1 m1 s1 p2 m2 s2 s s (.slice none 0 0) (.slice none 0 0) (.slice none 0 0) [] [] []) ∧ Hid (Few (k + j) s)) (fun iv _ => l.length - (intOf iv).toNat)
      case atStart => exact ⟨0, s, by omega, rfl, HO, HF⟩
      case round =>
        clear HO HF
        obtain ⟨j, s, hj, rfl, HO, HF⟩ := hrel
        by_cases hlt : j < l.length
        · obtain ⟨a0, rfl⟩ := HNN2.out (by omega)
          have hE := HO.out.ext
          have c0 := cell_first (hE.cell (HC2.out a0 rfl j hlt 0 _ rfl))
          have c1 := cell_next (hE.cell (HC2.out a0 rfl j hlt 1 _ rfl)) (by decide)
          have c2 := cell_next (hE.cell (HC2.out a0 rfl j hlt 2 _ rfl)) (by decide)
          have c3 := cell_next (hE.cell (HC2.out a0 rfl j hlt 3 _ rfl)) (by decide)
          have hqn := HAB.out.2 l[j] (List.getElem_mem hlt)
          have hqs := HS2.out.2 l[j] (List.getElem_mem hlt)
          obtain ⟨q, hq⟩ : ∃ q, l[j] = q := ⟨_, rfl⟩
          rw [hq] at c0 c1 c2 c3 hqn hqs
          clear hq hE
          have HQN := hid hqn
          have HQS := hid hqs
          have HK := hid hlt
          have HKJ : Hid (k + j ≤ 400) := hid (by have := HS2.out.1; have := HKL.out; omega)
          have hi1 : decide ((j : Int) < l.length) = true := by simp; omega
          have hbx := heap_alloc_new wr (actOD q)
          have HBX := hid hbx
          obtain ⟨q0, q1, q2, q3⟩ := lk4 hbx
          have HO2 := hid (HO.out.fr (Ext.alloc wr (actOD q)))
          clear hbx HO hqn hqs
          go_wp2_with fail
          obtain ⟨bx, hbx⟩ : ∃ b, wr.heap.size = b := ⟨_, rfl⟩
          rw [hbx] at HBX
          try rw [hbx]
          clear hbx q0 q1 q2 q3 c0 c1 c2 c3
          obtain ⟨R, hR⟩ : ∃ R, actD s q = R := ⟨_, rfl⟩
          have HFA := hid (HF.out.act q (by have := HKJ.out; omega))
          have hc := ddo_any q HO2.out.a HF.out (by have := HKJ.out; omega) (TBx HT.out HO2.out.ext) HQS.out HQN.out.1
          rw [hR] at hc
          have HRR := hid hR
          clear hR
          obtain ⟨⟨ids, err, b⟩, s'⟩ := R
          refine hc.mono ?_
          clear hc
          rintro e w12 ⟨⟨x, rfl, ho⟩, hd, hf⟩
          obtain ⟨xo, xc, rfl⟩ := row_shape ho
          have HV3 := hid ho
          have HO3 := hid (HO2.out.actA hd hf)
          have HBX3 := hid (HO2.out.kA hf HBX.out)
          obtain ⟨q0, q1, q2, q3⟩ := lk4 HBX3.out
          clear hd hf ho
          go_wp2_with fail
          clear q0 q1 q2 q3
          have hc := ddo_any q HO3.out.b HF.out (by have := HKJ.out; omega) (TBx HT.out HO3.out.ext) HQS.out HQN.out.1
          rw [HRR.out] at hc
          refine hc.mono ?_
          clear hc
          rintro e w13 ⟨⟨y, rfl, ho⟩, hd, hf⟩
          obtain ⟨yo, yc, rfl⟩ := row_shape ho
          have HV5 := hid ho
          have HV4 := hid (ownsRow_fr HV3.out hf (HO3.out.b.norow HV3.out))
          have HO4 := hid (HO3.out.actB hd hf)
          clear hd hf ho
          have hne : (err != err) = false := by simp
          have hbb : (b != b) = false := by cases b <;> rfl
          go_wp2_with fail
          have hc := rsame64_any _ _ ids ids _ (vec_ids HV4.out) (vec_ids HV5.out)
          rw [show (ids == ids) = true from by simp] at hc
          refine hc.mono ?_
          clear hc
          rintro e w14 ⟨rfl, hx⟩
          have HO5 := hid (HO4.out.fr hx)
          have HF5 : Hid (Few (k + (j + 1)) s') := hid (by have := HFA.out; rw [HRR.out] at this; exact this)
          clear hx
          go_wp2
          go_roundw
          case rel => exact ⟨j + 1, s', by have := HK.out; omega, by go_num, HO5, HF5⟩
          case measure =>
            have := HK.out
            show l.length - ((j : Int) + 1).toNat < l.length - ((j : Int)).toNat
            omega
        · have hkf : decide ((j : Int) < (l.length : Int)) = false := by simp; omega
          go_wp2_with fail
          refine (own_any HO.out.a HF.out.wd (TBx HT.out HO.out.ext)).mono ?_
          rintro e w15 ⟨⟨g1, vr1, vs1, rfl, hr⟩, hx⟩
          have HR1 := hid hr
          have HO6 := hid (HO.out.fr hx)
          clear hr hx
          go_wp2_with fail
          refine (own_any HO6.out.b HF.out.wd (TBx HT.out HO6.out.ext)).mono ?_
          rintro e w16 ⟨⟨g2, vr2, vs2, rfl, hr⟩, hx⟩
          have HR2 := hid hr
          have HR1b := hid (HR1.out.ext hx)
          have HO7 := hid (HO6.out.fr hx)
          clear hr hx
          go_wp2_with fail
          refine (same_eq HR1b.out HR2.out).mono ?_
          rintro e w17 ⟨rfl, hx⟩
          have HE17 := hid (HO7.out.ext.trans hx)
          clear hx
          go_wp2
          go_returns
          exact ⟨rfl, HE17.out⟩
end Go.Proofs.YtfpljeblehieiaaDoor
