/- The document's list: From. -/
import Derived.Test.YtfpljeblehieiaaDoorDedRM
import Derived.Test.YtfpljeblehieiaaDoorDedY
set_option linter.unusedSimpArgs false
set_option linter.unusedVariables false
namespace Go.Proofs.YtfpljeblehieiaaDoor
open Go Go.RowKit Go.Tum Go.ChangeMaps Go.Sort Go.Tum.Rn
open Go.ParB (upd Lof)
open Go.ParE (putS slotsR slots Closed)

def prevP (l : List (UInt64 × UInt64)) (k : Nat) : UInt64 := match k with
  | 0 => 0
  | j + 1 => (l.getD j (0, 0)).2
theorem curF_one (l : List Cur) : ∀ y ∈ l.flatMap encC, y.oneCell' = true := by
  intro y hy
  obtain ⟨z, -, hz⟩ := List.mem_flatMap.1 hy
  simp at hz
  rcases hz with rfl | rfl <;> rfl
def thenC (cs : List Cur) (o : Option PD) : Option PD := match o with
  | none => none
  | some s => takeCs cs s
theorem fromD_then (last : UInt64) (rows : List (UInt64 × UInt64)) (cs : List Cur) : fromD last rows cs = thenC cs (takeR 0 rows ⟨last, [], []⟩) := by
  unfold fromD thenC
  split <;> rename_i h <;> rw [h]
theorem heldM {p : Prop} (h : p ∨ False) : p := h.elim id False.elim
def RFroP (w : World) (o : Option PD) (e : Ending) (w' : World) : Prop := (match o with
      | some s => ∃ q vr vs, e = .returned (.tuple #[pv q, .int .i64 0]) ∧ RDD w.heap.size w' q vr vs s
      | none => e = .returned (.tuple #[.pointer none, .int .i64 1])) ∧ Ext w w'
theorem RFroP.none {w w' : World} (h : Ext w w') : RFroP w none (.returned (.tuple #[.pointer Option.none, .int .i64 1])) w' := ⟨rfl, h⟩
set_option maxRecDepth 100000 in
set_option maxHeartbeats 2000000 in
theorem rfrom_any {w : World} (last : UInt64) {v u : Value} (rows : List (UInt64 × UInt64)) (cs : List Cur) (hr : Sl w 2 v rows.length (rows.flatMap encR)) (hc : Sl w 2 u cs.length (cs.flatMap encC)) (hlr : rows.length ≤ 99999) (hln : ∀ z ∈ cs, z.1.length ≤ 100000) :
    Calls Tryd.prog 19 #[vU last, v, u] w fun e w' => RFroP w (fromD last rows cs) e w' := by
  have HR := hid hr
  have HC := hid hc
  have HLN := hid hln
  have HLR := hid hlr
  obtain ⟨ao, ac, rfl⟩ : ∃ a c, v = .slice a rows.length c := by obtain ⟨-, a, c, e, -⟩ := hr; exact ⟨a, c, e⟩
  obtain ⟨bo, bc, rfl⟩ : ∃ a c, u = .slice a cs.length c := by obtain ⟨-, a, c, e, -⟩ := hc; exact ⟨a, c, e⟩
  obtain ⟨hale, ham, haz, hac⟩ := Sl.cells hr
  obtain ⟨hble, hbm, hbz, hbc⟩ := Sl.cells hc
  have hamm : ac ≤ 9223372036854775807 := by simpa [maxLen] using ham
  have hbmm : bc ≤ 9223372036854775807 := by simpa [maxLen] using hbm
  have HAC := hid hac
  have HBC := hid hbc
  have HAZ := hid haz
  have HBZ := hid hbz
  obtain ⟨R, hR⟩ : ∃ R, fromD last rows cs = R := ⟨_, rfl⟩
  rw [hR]
  obtain ⟨O1, hO1⟩ : ∃ O, takeR 0 rows ⟨last, [], []⟩ = O := ⟨_, rfl⟩
  have HRO : Hid (thenC cs O1 = R) := hid (by rw [← hR, ← hO1, fromD_then])
  have HT0 : Hid (takeR (prevP rows 0) (rows.drop 0) ⟨last, rows.take 0, []⟩ = O1) := hid (by rw [List.drop_zero, List.take_zero]; exact hO1)
  clear hr hc hlr hln ham hbm hac hbc haz hbz hR hO1
  go_enter Tryd.func19, Tryd.ntmps19
  go_wp2
  go_loopw [8] (fun iv wr => ∃ k : Nat, k ≤ rows.length ∧ iv = .int .i64 (k : Int) ∧ Hid (takeR (prevP rows k) (rows.drop k) ⟨last, rows.take k, []⟩ = O1) ∧ Hid (Ext w wr)) (fun iv _ => rows.length - (intOf iv).toNat)
  case atStart => exact ⟨0, by omega, rfl, HT0, hid (Ext.refl _)⟩
  case round =>
    clear HT0
    obtain ⟨k, hk, rfl, HT, HE⟩ := hrel
    by_cases hlt : k < rows.length
    · have hki : decide ((k : Int) < (rows.length : Int)) = true := by simp; omega
      obtain ⟨a, rfl⟩ : ∃ a, ao = some a := by
        cases ao with
        | none => have := HAZ.out rfl; omega
        | some a => exact ⟨a, rfl⟩
      obtain ⟨g0, g1⟩ := flat2_get (A := fun z : UInt64 × UInt64 => vU z.1) (Bf := fun z => vU z.2) rows k hlt
      have r0 := cell_first (i := k * 2) (HE.out.cell (HAC.out a rfl _ _ g0))
      have r1 := cell_next (i := k * 2) (j := 1) (HE.out.cell (HAC.out a rfl _ _ g1)) (by decide)
      have hdrop := List.drop_eq_getElem_cons hlt
      have htake : rows.take (k + 1) = rows.take k ++ [rows[k]] := by rw [List.take_add_one, List.getElem?_eq_getElem hlt]; rfl
      have hpn : prevP rows (k + 1) = rows[k].2 := by unfold prevP; dsimp only; rw [List.getD_eq_getElem?_getD, List.getElem?_eq_getElem hlt]; rfl
      obtain ⟨z, hz⟩ : ∃ z, rows[k] = z := ⟨_, rfl⟩
      rw [hz] at r0 r1 hdrop htake hpn
      have ht := HT.out
      rw [hdrop, takeR] at ht
      obtain ⟨z1, z2⟩ := z
      dsimp only at ht hpn
      have HT2 := hid ht
      have HTK := hid htake
      have HPN := hid hpn
      have HKM := hid hlt
      have HPC : Hid (∀ j, k = j + 1 → wr.cell? ⟨(a.add (j * 2)).block, (a.add (j * 2)).off + 1, none⟩ = some (vU (prevP rows k))) := hid (fun j hj => by
        have hjr : j < rows.length := by omega
        obtain ⟨-, g2⟩ := flat2_get (A := fun z : UInt64 × UInt64 => vU z.1) (Bf := fun z => vU z.2) rows j hjr
        subst hj
        have e : prevP rows (j + 1) = rows[j].2 := by unfold prevP; dsimp only; rw [List.getD_eq_getElem?_getD, List.getElem?_eq_getElem hjr]; rfl
        rw [e]
        exact cell_next (i := j * 2) (j := 1) (HE.out.cell (HAC.out a rfl _ _ g2)) (by decide))
      clear g0 g1 hdrop htake hpn hz ht HT
      obtain ⟨pr, hpr⟩ : ∃ p, prevP rows k = p := ⟨_, rfl⟩
      rw [hpr] at HT2 HPC
      have HPR := hid hpr
      clear hpr
      have HBAD : Hid ((decide (z2 ≤ pr) || (decide (last < z2) || ((rows.take k).lookup z1).isSome)) = true → R = none) := hid (fun h => by
        have := HT2.out
        rw [if_pos h] at this
        have h2 := HRO.out
        rw [← this] at h2
        exact h2.symm)
      have HOK : Hid ((decide (z2 ≤ pr) || (decide (last < z2) || ((rows.take k).lookup z1).isSome)) = false → takeR z2 (rows.drop (k + 1)) ⟨last, rows.take k ++ [(z1, z2)], []⟩ = O1) := hid (fun h => by
        have := HT2.out
        rw [if_neg (by rw [h]; decide)] at this
        exact this)
      clear HT2
      by_cases h1 : z2 < 1
      · have hd1 : decide ((z2.toNat : Int) < 1) = true := by rw [UInt64.lt_iff_toNat_lt] at h1; have : (1 : UInt64).toNat = 1 := rfl; simp; omega
        have HNO : Hid (R = none) := hid (HBAD.out (by
          have : z2 ≤ pr := by
            rw [UInt64.lt_iff_toNat_lt] at h1
            rw [UInt64.le_iff_toNat_le]
            have : (1 : UInt64).toNat = 1 := rfl
            omega
          simp [this]))
        clear h1
        go_wp2
        go_quiet (fail)
        go_wp2
        go_returns
        rw [HNO.out]
        exact RFroP.none (HE.out.trans (Ext.drewN _ _))
      have hd1 : decide ((z2.toNat : Int) < 1) = false := by rw [UInt64.lt_iff_toNat_lt] at h1; have : (1 : UInt64).toNat = 1 := rfl; simp; omega
      have HZ2 : Hid (1 ≤ z2.toNat) := hid (by
        rw [UInt64.lt_iff_toNat_lt] at h1
        have : (1 : UInt64).toNat = 1 := rfl
        omega)
      clear h1
      by_cases h2 : last < z2
      · have hd2 : decide (last.toNat < z2.toNat) = true := by rw [UInt64.lt_iff_toNat_lt] at h2; simpa using h2
        have HNO : Hid (R = none) := hid (HBAD.out (by simp [h2]))
        clear h2
        go_wp2
        go_quiet (fail)
        go_wp2
        go_returns
        rw [HNO.out]
        exact RFroP.none (HE.out.trans (Ext.drewN _ _))
      have hd2 : decide (last.toNat < z2.toNat) = false := by rw [UInt64.lt_iff_toNat_lt] at h2; simpa using h2
      have HL2 : Hid (decide (last < z2) = false) := hid (by simpa using h2)
      clear h2
      rcases Nat.eq_zero_or_pos k with hk0 | hkp
      · subst hk0
        have hpos : decide ((0 : Int) < ((0 : Nat) : Int)) = false := by simp
        have HOK2 : Hid (((rows.take 0).lookup z1).isSome = false → takeR z2 (rows.drop (0 + 1)) ⟨last, rows.take 0 ++ [(z1, z2)], []⟩ = O1) := hid (fun h => HOK.out (by
          have hpr0 : pr = 0 := by rw [← HPR.out]; rfl
          have : decide (z2 ≤ pr) = false := by
            rw [decide_eq_false_iff_not, UInt64.le_iff_toNat_le, hpr0]
            have := HZ2.out
            have : (0 : UInt64).toNat = 0 := rfl
            omega
          rw [this, HL2.out, h]; rfl))
        have eaz : a.add (0 * 2) = a := by unfold Addr.add; split <;> simp_all
        have r0z : wr.cell? a = some (vU z1) := by rw [eaz] at r0; exact r0
        have r1z : wr.cell? ⟨a.block, a.off + 1, none⟩ = some (vU z2) := by rw [eaz] at r1; exact r1
        go_wp2
        go_quiet (fail)
        clear r0z r1z eaz
        have HEa := hid (HE.out.trans (Ext.drewN wr nq))
        have r0a := (Ext.drewN wr nq).cell r0
        clear r0 r1 HE
        generalize wr.drewN nq = W2 at *
        have HR0 := hid r0a
        clear r0a
        go_wp2
        go_loopw [9] (fun iv wr => ∃ i : Nat, i ≤ 0 ∧ iv = .int .i64 (i : Int) ∧ Hid (∀ m (h : m < rows.length), m < i → rows[m].1 ≠ z1) ∧ Hid (Ext W2 wr)) (fun iv _ => 0 - (intOf iv).toNat)
        case atStart => exact ⟨0, by omega, rfl, hid (fun m _ h => absurd h (by omega)), hid (Ext.refl _)⟩
        case round =>
          obtain ⟨i, hi, rfl, HN, HE2⟩ := hrel
          have r0 := HE2.out.cell HR0.out
          by_cases hik : i < 0
          · exact absurd hik (by omega)
          · have hif : decide ((i : Int) < ((0 : Nat) : Int)) = false := by first | (simp; done) | (simp; omega)
            have HLK : Hid (((rows.take (0)).lookup z1).isSome = false) := hid (by
              have : (rows.take (0)).lookup z1 = none := lku_none.2 fun hm => by
                obtain ⟨z, hz1, e⟩ := List.mem_map.1 hm
                obtain ⟨m, hm2, rfl⟩ := List.mem_iff_getElem.1 hz1
                simp only [List.length_take] at hm2
                rw [List.getElem_take] at e
                exact HN.out m (by omega) (by omega) e
              rw [this]; rfl)
            have HT9 := hid (HOK2.out HLK.out)
            go_wp2
            go_roundw
            case rel => exact ⟨0 + 1, by have := HKM.out; omega, by go_num, hid (by rw [HPN.out, HTK.out]; exact HT9.out), hid (HEa.out.trans HE2.out)⟩
            case measure =>
              have := HKM.out
              simp [intOf]; omega
      · obtain ⟨j, rfl⟩ : ∃ j, k = j + 1 := ⟨k - 1, by omega⟩
        have hpos : decide ((0 : Int) < (j : Int) + 1) = true := by first | (simp; done) | (simp; omega)
        have hwr : IntKind.i64.wrap (j : Int) = (j : Int) := IntWalk.i64_in _ (by omega)
        have hjr : (j : Int) < rows.length := by omega
        have pc := HPC.out j rfl
        by_cases h3 : z2 ≤ pr
        · have hd3 : decide (z2.toNat ≤ pr.toNat) = true := by rw [UInt64.le_iff_toNat_le] at h3; simpa using h3
          have HNO : Hid (R = none) := hid (HBAD.out (by simp [h3]))
          clear h3
          go_wp2
          go_quiet (fail)
          go_wp2
          go_returns
          rw [HNO.out]
          exact RFroP.none (HE.out.trans (Ext.drewN _ _))
        have hd3 : decide (z2.toNat ≤ pr.toNat) = false := by rw [UInt64.le_iff_toNat_le] at h3; simpa using h3
        have HOK2 : Hid (((rows.take (j + 1)).lookup z1).isSome = false → takeR z2 (rows.drop ((j + 1) + 1)) ⟨last, rows.take (j + 1) ++ [(z1, z2)], []⟩ = O1) := hid (fun h => HOK.out (by
          have : decide (z2 ≤ pr) = false := by simpa using h3
          rw [this, HL2.out, h]; rfl))
        clear h3
        go_wp2
        go_quiet (fail)
        have HEa := hid (HE.out.trans (Ext.drewN wr nq))
        have r0a := (Ext.drewN wr nq).cell r0
        clear r0 r1 HE
        generalize wr.drewN nq = W2 at *
        have HR0 := hid r0a
        clear r0a
        go_wp2
        go_loopw [9] (fun iv wr => ∃ i : Nat, i ≤ j + 1 ∧ iv = .int .i64 (i : Int) ∧ Hid (∀ m (h : m < rows.length), m < i → rows[m].1 ≠ z1) ∧ Hid (Ext W2 wr)) (fun iv _ => j + 1 - (intOf iv).toNat)
        case atStart => exact ⟨0, by omega, rfl, hid (fun m _ h => absurd h (by omega)), hid (Ext.refl _)⟩
        case round =>
          obtain ⟨i, hi, rfl, HN, HE2⟩ := hrel
          have r0 := HE2.out.cell HR0.out
          by_cases hik : i < j + 1
          · have hii : decide ((i : Int) < ((j : Int) + 1)) = true := by simp; omega
            have hir : i < rows.length := by omega
            obtain ⟨g2, -⟩ := flat2_get (A := fun z : UInt64 × UInt64 => vU z.1) (Bf := fun z => vU z.2) rows i hir
            have s0 := cell_first (i := i * 2) ((HEa.out.trans HE2.out).cell (HAC.out a rfl _ _ g2))
            obtain ⟨y, hy⟩ : ∃ y, rows[i] = y := ⟨_, rfl⟩
            have HY : Hid (∃ h : i < rows.length, rows[i] = y) := hid ⟨hir, hy⟩
            rw [hy] at s0
            obtain ⟨y1, y2⟩ := y
            have hi1 : (i : Int) < rows.length := by omega
            have hi2 : (((j : Int) + 1) : Int) < rows.length := by omega
            clear g2 hy hir
            by_cases he : y1 = z1
            · have heq : ((y1.toNat : Int) == (z1.toNat : Int)) = true := by simp [he]
              have HNO : Hid (R = none) := hid (HBAD.out (by
                have : ((rows.take (j + 1)).lookup z1).isSome = true := by
                  cases hq : (rows.take (j + 1)).lookup z1 with
                  | some b => rfl
                  | none =>
                    obtain ⟨h, e⟩ := HY.out
                    refine absurd ?_ (lku_none.1 hq)
                    rw [← he]
                    refine List.mem_map.2 ⟨rows[i], ?_, by rw [e]⟩
                    rw [List.mem_iff_getElem]
                    exact ⟨i, by simp only [List.length_take]; omega, by rw [List.getElem_take]⟩
                rw [this]; simp))
              clear he
              go_wp2
              go_quiet (fail)
              go_wp2
              go_returns
              rw [HNO.out]
              exact RFroP.none ((HEa.out.trans HE2.out).trans (Ext.drewN _ _))
            · have heq : ((y1.toNat : Int) == (z1.toNat : Int)) = false := by
                simp only [beq_eq_false_iff_ne, ne_eq]
                exact fun e => he (UInt64.toNat_inj.1 (by omega))
              have HN2 : Hid (∀ m (h : m < rows.length), m < i + 1 → rows[m].1 ≠ z1) := hid (fun m h h2 => by
                rcases Nat.lt_or_eq_of_le (Nat.le_of_lt_succ h2) with h3 | h3
                · exact HN.out m h h3
                · subst h3; obtain ⟨h, e⟩ := HY.out; rw [e]; exact he)
              clear he
              go_wp2
              go_quiet (fail)
              go_wp2
              go_roundw
              case rel => exact ⟨i + 1, by omega, by go_num, HN2, hid (HE2.out.trans (Ext.drewN _ _))⟩
              case measure => simp [intOf]; omega
          · have hif : decide ((i : Int) < ((j : Int) + 1)) = false := by first | (simp; done) | (simp; omega)
            have HLK : Hid (((rows.take (j + 1)).lookup z1).isSome = false) := hid (by
              have : (rows.take (j + 1)).lookup z1 = none := lku_none.2 fun hm => by
                obtain ⟨z, hz1, e⟩ := List.mem_map.1 hm
                obtain ⟨m, hm2, rfl⟩ := List.mem_iff_getElem.1 hz1
                simp only [List.length_take] at hm2
                rw [List.getElem_take] at e
                exact HN.out m (by omega) (by omega) e
              rw [this]; rfl)
            have HT9 := hid (HOK2.out HLK.out)
            go_wp2
            go_roundw
            case rel => exact ⟨j + 1 + 1, by have := HKM.out; omega, by go_num, hid (by rw [HPN.out, HTK.out]; exact HT9.out), hid (HEa.out.trans HE2.out)⟩
            case measure =>
              have := HKM.out
              simp [intOf]; omega
    · have hkf : decide ((k : Int) < (rows.length : Int)) = false := by simp; omega
      obtain rfl : k = rows.length := by omega
      have HO9 : Hid (takeCs cs ⟨last, rows, []⟩ = R) := hid (by
        have h1 := HT.out
        rw [List.drop_length, takeR, List.take_length] at h1
        have h2 := HRO.out
        rw [← h1] at h2
        exact h2)
      by_cases h8 : 8 < cs.length
      · have h8' : decide ((8 : Int) < (cs.length : Int)) = true := by simp; omega
        have HNO : Hid (R = none) := hid (by rw [← HO9.out]; unfold takeCs; rw [if_pos h8])
        clear h8
        go_wp2
        go_returns
        rw [HNO.out]
        exact RFroP.none HE.out
      have h8' : decide ((8 : Int) < (cs.length : Int)) = false := by simp; omega
      have HO2 : Hid (takeC (prevN cs 0) (cs.drop 0) ⟨last, rows, cs.take 0⟩ = R) := hid (by rw [← HO9.out]; unfold takeCs; rw [if_neg h8]; rfl)
      have H8 := hid h8
      clear h8 HT HRO
      go_wp2
      clear h8'
      obtain ⟨w0, hw0⟩ : ∃ x, x = wr := ⟨_, rfl⟩
      subst hw0
      go_loopw [10] (fun iv wr => ∃ k : Nat, k ≤ cs.length ∧ iv = .int .i64 (k : Int) ∧ Hid (takeC (prevN cs k) (cs.drop k) ⟨last, rows, cs.take k⟩ = R) ∧ Hid (Ext w wr)) (fun iv _ => cs.length - (intOf iv).toNat)
      case atStart => exact ⟨0, by omega, rfl, HO2, HE⟩
      case round =>
        clear HO2 HE
        obtain ⟨k, hk, rfl, HT, HE⟩ := hrel
        by_cases hlt : k < cs.length
        · have hki : decide ((k : Int) < (cs.length : Int)) = true := by simp; omega
          obtain ⟨a, rfl⟩ : ∃ a, bo = some a := by
            cases bo with
            | none => have := HBZ.out rfl; omega
            | some a => exact ⟨a, rfl⟩
          obtain ⟨g0, g1⟩ := flat2_get (A := fun z : Cur => vN z.1) (Bf := fun z => vU z.2) cs k hlt
          have r0 := cell_first (i := k * 2) (HE.out.cell (HBC.out a rfl _ _ g0))
          have r1 := cell_next (i := k * 2) (j := 1) (HE.out.cell (HBC.out a rfl _ _ g1)) (by decide)
          have hdrop := List.drop_eq_getElem_cons hlt
          have htake : cs.take (k + 1) = cs.take k ++ [cs[k]] := by rw [List.take_add_one, List.getElem?_eq_getElem hlt]; rfl
          have hpn : prevN cs (k + 1) = some cs[k].1 := by unfold prevN; rw [if_neg (by omega), show k + 1 - 1 = k by omega, List.getElem?_eq_getElem hlt]; rfl
          have hzl := HLN.out _ (List.getElem_mem hlt)
          have HPR : Hid (∀ j, k = j + 1 → ∃ y, prevN cs k = some y ∧ y.length ≤ 100000 ∧ w.cell? (a.add (j * 2)) = some (vN y)) := hid (fun j hj => by
            have hjr : j < cs.length := by omega
            obtain ⟨g2, -⟩ := flat2_get (A := fun z : Cur => vN z.1) (Bf := fun z => vU z.2) cs j hjr
            refine ⟨cs[j].1, ?_, HLN.out _ (List.getElem_mem hjr), cell_first (i := j * 2) (HBC.out a rfl _ _ g2)⟩
            unfold prevN
            rw [if_neg (by omega), show k - 1 = j by omega, List.getElem?_eq_getElem hjr]; rfl)
          obtain ⟨z, hz⟩ : ∃ z, cs[k] = z := ⟨_, rfl⟩
          rw [hz] at r0 r1 hdrop htake hpn hzl
          have ht := HT.out
          rw [hdrop, takeC] at ht
          obtain ⟨z1, z2⟩ := z
          dsimp only at ht hpn
          have HTK := hid htake
          have HPN := hid hpn
          have HKM := hid hlt
          have HZL : Hid (z1.length ≤ 100000) := hid hzl
          have HB := hid (heap_alloc_new wr (.cells #[vN z1, vU z2] 52 (0, 0)))
          have HE5 := hid (HE.out.trans (Ext.alloc wr (.cells #[vN z1, vU z2] 52 (0, 0))))
          have HT2 := hid ht
          clear g0 g1 hdrop htake hpn hz ht HT HE hzl
          go_wp2_with fail
          clear r0 r1
          obtain ⟨rb, hrb⟩ : ∃ b, wr.heap.size = b := ⟨_, rfl⟩
          try rw [hrb] at HB
          try rw [hrb]
          clear hrb
          generalize wr.alloc (.cells #[vN z1, vU z2] 52 (0, 0)) = W5 at *
          obtain ⟨b1, hb1⟩ : ∃ b, rightL z1 = b := ⟨_, rfl⟩
          obtain ⟨F, hF⟩ : ∃ F, foldL z1 = F := ⟨_, rfl⟩
          obtain ⟨b2, hb2⟩ : ∃ b, decide (F = z1) = b := ⟨_, rfl⟩
          obtain ⟨b3, hb3⟩ : ∃ b, decide (last < z2) = b := ⟨_, rfl⟩
          obtain ⟨b4, hb4⟩ : ∃ b, lessO (prevN cs k) z1 = b := ⟨_, rfl⟩
          have HT4 : Hid ((if (!b1) || ((!b2) || (b3 || !b4)) then none else takeC (some z1) (cs.drop (k + 1)) ⟨last, rows, cs.take k ++ [(z1, z2)]⟩) = R) := hid (by have := HT2.out; rw [hb1, hF, hb2, hb3, hb4] at this; exact this)
          have HB1 := hid hb1
          have HFF := hid hF
          have HB4 := hid hb4
          have hb2' : (F == z1) = b2 := by rw [← hb2]; by_cases e : F = z1 <;> simp [e]
          have hb3' : decide (last.toNat < z2.toNat) = b3 := by rw [← hb3]; simp only [u64_lt]
          clear hb1 hF hb2 hb3 hb4 HT2
          cases b1
          case false =>
            refine Par.wp_region_par (l := [_, _, _, _, _, _, _, _, _, _, _, _, _, _, _, _, _, _, _, _, _, _, _, _, _, _, _, _, _, _, _, _, _, _]) rfl Ext (Par.VL [Par.EQ (Value.pointer (some ⟨rb, 0, none⟩)), Par.EQ (vN z1), Par.EQ (Value.bool false), Par.EQ (Value.bool true), Par.EQ (Value.bool true), Par.EQ (undef), Par.EQ (undef), Par.EQ (undef), Par.EQ (undef), Par.EQ (undef), Par.EQ (undef), Par.EQ (Value.bool true), Par.EQ (Value.bool true), Par.EQ (undef), Par.EQ (undef), Par.EQ (undef), Par.EQ (undef), Par.EQ (Value.bool true), Par.EQ (Value.bool true), Par.EQ (undef), Par.EQ (undef), Par.EQ (undef), Par.EQ (undef), Par.EQ (undef), Par.EQ (undef), Par.EQ (undef), Par.EQ (undef), Par.EQ (undef), Par.EQ (undef), Par.EQ (undef), Par.EQ (undef), Par.EQ (undef), Par.EQ (undef), Par.EQ (Value.bool true)]) (by kernel_rfl) Ext.refl (fun _ _ _ h1 h2 => Ext.trans h1 h2) (Ext.draw _) (Par.VL_stab ?_) ?_ ?_
            · simp only [List.forall_mem_cons, List.not_mem_nil, false_implies, implies_true, and_true]
              refine ⟨fun _ _ _ _ h => h, fun _ _ _ _ h => h, fun _ _ _ _ h => h, fun _ _ _ _ h => h, fun _ _ _ _ h => h, fun _ _ _ _ h => h, fun _ _ _ _ h => h, fun _ _ _ _ h => h, fun _ _ _ _ h => h, fun _ _ _ _ h => h, fun _ _ _ _ h => h, fun _ _ _ _ h => h, fun _ _ _ _ h => h, fun _ _ _ _ h => h, fun _ _ _ _ h => h, fun _ _ _ _ h => h, fun _ _ _ _ h => h, fun _ _ _ _ h => h, fun _ _ _ _ h => h, fun _ _ _ _ h => h, fun _ _ _ _ h => h, fun _ _ _ _ h => h, fun _ _ _ _ h => h, fun _ _ _ _ h => h, fun _ _ _ _ h => h, fun _ _ _ _ h => h, fun _ _ _ _ h => h, fun _ _ _ _ h => h, fun _ _ _ _ h => h, fun _ _ _ _ h => h, fun _ _ _ _ h => h, fun _ _ _ _ h => h, fun _ _ _ _ h => h, fun _ _ _ _ h => h⟩
            · refine ⟨⟨fun _ _ => trivial, fun ρ w' hX hG hk => ?_⟩, ?_⟩
              · obtain ⟨k0, -⟩ := hk
                have e0 : ρ (.tmp 11) = pv rb := k0
                clear k0
                refine Par.val_k fun K hK => ?_
                unfold Par.val
                (go_simp; exact hK _ _ ⟨Ext.refl _, rfl⟩)
              refine ⟨⟨fun _ _ => trivial, fun ρ w' hX hG hk => ?_⟩, ?_⟩
              · obtain ⟨k0, -⟩ := hk
                have e0 : ρ (.tmp 80) = Value.pointer (some ⟨rb, 0, none⟩) := k0
                clear k0
                refine Par.val_k fun K hK => ?_
                unfold Par.val
                (have cc := (lk2 (hX.obj HB.out)).1; go_simp; exact hK _ _ ⟨Ext.refl _, rfl⟩)
              refine ⟨⟨fun _ _ => trivial, fun ρ w' hX hG hk => ?_⟩, ?_⟩
              · obtain ⟨k0, k1, -⟩ := hk
                have e0 := k0
                have e1 : ρ (.tmp 81) = vN z1 := k1
                clear k0 k1
                refine Par.val_k fun K hK => ?_
                unfold Par.val
                refine Par.val_call Tryd.func23 (by kernel_rfl) rfl e0 ?_
                simp only [List.map_toArray, List.map_cons, List.map_nil, e1]
                refine (rright3_any z1 _ (by have := HZL.out; omega)).mono ?_
                rintro e w2 ⟨rfl, hE⟩
                exact ⟨_, rfl, hK _ _ ⟨hE, (congrArg Value.bool HB1.out)⟩⟩
              refine ⟨⟨fun _ _ => trivial, fun ρ w' hX hG hk => ?_⟩, ?_⟩
              · obtain ⟨k0, -⟩ := hk
                have e0 : ρ (.tmp 82) = Value.bool false := k0
                clear k0
                refine Par.val_k fun K hK => ?_
                unfold Par.val
                (go_simp; exact hK _ _ ⟨Ext.refl _, rfl⟩)
              refine ⟨⟨fun _ _ => trivial, fun ρ w' hX hG hk => ?_⟩, ?_⟩
              · obtain ⟨k0, -⟩ := hk
                have e0 : ρ (.tmp 83) = Value.bool true := k0
                clear k0
                refine Par.val_k fun K hK => ?_
                unfold Par.val
                (go_simp; exact hK _ _ ⟨Ext.refl _, rfl⟩)
              refine ⟨⟨fun _ _ u hu => .inr rfl, fun ρ w' hX hG hk => ?_⟩, ?_⟩
              · cases hG
              refine ⟨⟨fun _ _ u hu => .inr rfl, fun ρ w' hX hG hk => ?_⟩, ?_⟩
              · cases hG
              refine ⟨⟨fun _ _ u hu => .inr rfl, fun ρ w' hX hG hk => ?_⟩, ?_⟩
              · cases hG
              refine ⟨⟨fun _ _ u hu => .inr rfl, fun ρ w' hX hG hk => ?_⟩, ?_⟩
              · cases hG
              refine ⟨⟨fun _ _ u hu => .inr rfl, fun ρ w' hX hG hk => ?_⟩, ?_⟩
              · cases hG
              refine ⟨⟨fun _ _ u hu => .inr rfl, fun ρ w' hX hG hk => ?_⟩, ?_⟩
              · cases hG
              refine ⟨⟨fun _ _ => trivial, fun ρ w' hX hG hk => ?_⟩, ?_⟩
              · obtain ⟨k0, k1, k2, -⟩ := hk
                have e0 : ρ (.tmp 84) = Value.bool true := k0
                have e1 : ρ (Operand.const (Value.bool true)) = (Value.bool true) := k1
                have e2 : ρ (.tmp 90) = undef := k2
                clear k0 k1 k2
                refine Par.val_k fun K hK => ?_
                unfold Par.val
                (go_simp; exact hK _ _ ⟨Ext.refl _, rfl⟩)
              refine ⟨⟨fun _ _ => trivial, fun ρ w' hX hG hk => ?_⟩, ?_⟩
              · obtain ⟨k0, -⟩ := hk
                have e0 : ρ (.tmp 91) = Value.bool true := k0
                clear k0
                refine Par.val_k fun K hK => ?_
                unfold Par.val
                (go_simp; exact hK _ _ ⟨Ext.refl _, rfl⟩)
              refine ⟨⟨fun _ _ u hu => .inr rfl, fun ρ w' hX hG hk => ?_⟩, ?_⟩
              · cases hG
              refine ⟨⟨fun _ _ u hu => .inr rfl, fun ρ w' hX hG hk => ?_⟩, ?_⟩
              · cases hG
              refine ⟨⟨fun _ _ u hu => .inr rfl, fun ρ w' hX hG hk => ?_⟩, ?_⟩
              · cases hG
              refine ⟨⟨fun _ _ u hu => .inr rfl, fun ρ w' hX hG hk => ?_⟩, ?_⟩
              · cases hG
              refine ⟨⟨fun _ _ => trivial, fun ρ w' hX hG hk => ?_⟩, ?_⟩
              · obtain ⟨k0, k1, k2, -⟩ := hk
                have e0 : ρ (.tmp 92) = Value.bool true := k0
                have e1 : ρ (Operand.const (Value.bool true)) = (Value.bool true) := k1
                have e2 : ρ (.tmp 96) = undef := k2
                clear k0 k1 k2
                refine Par.val_k fun K hK => ?_
                unfold Par.val
                (go_simp; exact hK _ _ ⟨Ext.refl _, rfl⟩)
              refine ⟨⟨fun _ _ => trivial, fun ρ w' hX hG hk => ?_⟩, ?_⟩
              · obtain ⟨k0, -⟩ := hk
                have e0 : ρ (.tmp 97) = Value.bool true := k0
                clear k0
                refine Par.val_k fun K hK => ?_
                unfold Par.val
                (go_simp; exact hK _ _ ⟨Ext.refl _, rfl⟩)
              refine ⟨⟨fun _ _ u hu => .inr rfl, fun ρ w' hX hG hk => ?_⟩, ?_⟩
              · cases hG
              refine ⟨⟨fun _ _ u hu => .inr rfl, fun ρ w' hX hG hk => ?_⟩, ?_⟩
              · cases hG
              refine ⟨⟨fun _ _ u hu => .inr rfl, fun ρ w' hX hG hk => ?_⟩, ?_⟩
              · cases hG
              refine ⟨⟨fun _ _ u hu => .inr rfl, fun ρ w' hX hG hk => ?_⟩, ?_⟩
              · cases hG
              refine ⟨⟨fun _ _ u hu => .inr rfl, fun ρ w' hX hG hk => ?_⟩, ?_⟩
              · cases hG
              refine ⟨⟨fun _ _ u hu => .inr rfl, fun ρ w' hX hG hk => ?_⟩, ?_⟩
              · cases hG
              refine ⟨⟨fun _ _ u hu => .inr rfl, fun ρ w' hX hG hk => ?_⟩, ?_⟩
              · cases hG
              refine ⟨⟨fun _ _ u hu => .inr rfl, fun ρ w' hX hG hk => ?_⟩, ?_⟩
              · cases hG
              refine ⟨⟨fun _ _ u hu => .inr rfl, fun ρ w' hX hG hk => ?_⟩, ?_⟩
              · cases hG
              refine ⟨⟨fun _ _ u hu => .inr rfl, fun ρ w' hX hG hk => ?_⟩, ?_⟩
              · cases hG
              refine ⟨⟨fun _ _ u hu => .inr rfl, fun ρ w' hX hG hk => ?_⟩, ?_⟩
              · cases hG
              refine ⟨⟨fun _ _ u hu => .inr rfl, fun ρ w' hX hG hk => ?_⟩, ?_⟩
              · cases hG
              refine ⟨⟨fun _ _ u hu => .inr rfl, fun ρ w' hX hG hk => ?_⟩, ?_⟩
              · cases hG
              refine ⟨⟨fun _ _ u hu => .inr rfl, fun ρ w' hX hG hk => ?_⟩, ?_⟩
              · cases hG
              refine ⟨⟨fun _ _ => trivial, fun ρ w' hX hG hk => ?_⟩, ?_⟩
              · obtain ⟨k0, k1, k2, -⟩ := hk
                have e0 : ρ (.tmp 98) = Value.bool true := k0
                have e1 : ρ (Operand.const (Value.bool true)) = (Value.bool true) := k1
                have e2 : ρ (.tmp 112) = undef := k2
                clear k0 k1 k2
                refine Par.val_k fun K hK => ?_
                unfold Par.val
                (go_simp; exact hK _ _ ⟨Ext.refl _, rfl⟩)
              trivial
            intro a' w' inv
            have hX := inv.ext
            have q80 : a'.tmps.getD 80 undef = Value.pointer (some ⟨rb, 0, none⟩) := inv.done 0 _ 80 rfl rfl rfl
            have q81 : a'.tmps.getD 81 undef = vN z1 := inv.done 1 _ 81 rfl rfl rfl
            have q82 : a'.tmps.getD 82 undef = Value.bool false := inv.done 2 _ 82 rfl rfl rfl
            have q83 : a'.tmps.getD 83 undef = Value.bool true := inv.done 3 _ 83 rfl rfl rfl
            have q84 : a'.tmps.getD 84 undef = Value.bool true := inv.done 4 _ 84 rfl rfl rfl
            have q85 : a'.tmps.getD 85 undef = undef := inv.done 5 _ 85 rfl rfl rfl
            have q86 : a'.tmps.getD 86 undef = undef := inv.done 6 _ 86 rfl rfl rfl
            have q87 : a'.tmps.getD 87 undef = undef := inv.done 7 _ 87 rfl rfl rfl
            have q88 : a'.tmps.getD 88 undef = undef := inv.done 8 _ 88 rfl rfl rfl
            have q89 : a'.tmps.getD 89 undef = undef := inv.done 9 _ 89 rfl rfl rfl
            have q90 : a'.tmps.getD 90 undef = undef := inv.done 10 _ 90 rfl rfl rfl
            have q91 : a'.tmps.getD 91 undef = Value.bool true := inv.done 11 _ 91 rfl rfl rfl
            have q92 : a'.tmps.getD 92 undef = Value.bool true := inv.done 12 _ 92 rfl rfl rfl
            have q93 : a'.tmps.getD 93 undef = undef := inv.done 13 _ 93 rfl rfl rfl
            have q94 : a'.tmps.getD 94 undef = undef := inv.done 14 _ 94 rfl rfl rfl
            have q95 : a'.tmps.getD 95 undef = undef := inv.done 15 _ 95 rfl rfl rfl
            have q96 : a'.tmps.getD 96 undef = undef := inv.done 16 _ 96 rfl rfl rfl
            have q97 : a'.tmps.getD 97 undef = Value.bool true := inv.done 17 _ 97 rfl rfl rfl
            have q98 : a'.tmps.getD 98 undef = Value.bool true := inv.done 18 _ 98 rfl rfl rfl
            have q99 : a'.tmps.getD 99 undef = undef := inv.done 19 _ 99 rfl rfl rfl
            have q100 : a'.tmps.getD 100 undef = undef := inv.done 20 _ 100 rfl rfl rfl
            have q101 : a'.tmps.getD 101 undef = undef := inv.done 21 _ 101 rfl rfl rfl
            have q102 : a'.tmps.getD 102 undef = undef := inv.done 22 _ 102 rfl rfl rfl
            have q103 : a'.tmps.getD 103 undef = undef := inv.done 23 _ 103 rfl rfl rfl
            have q104 : a'.tmps.getD 104 undef = undef := inv.done 24 _ 104 rfl rfl rfl
            have q105 : a'.tmps.getD 105 undef = undef := inv.done 25 _ 105 rfl rfl rfl
            have q106 : a'.tmps.getD 106 undef = undef := inv.done 26 _ 106 rfl rfl rfl
            have q107 : a'.tmps.getD 107 undef = undef := inv.done 27 _ 107 rfl rfl rfl
            have q108 : a'.tmps.getD 108 undef = undef := inv.done 28 _ 108 rfl rfl rfl
            have q109 : a'.tmps.getD 109 undef = undef := inv.done 29 _ 109 rfl rfl rfl
            have q110 : a'.tmps.getD 110 undef = undef := inv.done 30 _ 110 rfl rfl rfl
            have q111 : a'.tmps.getD 111 undef = undef := inv.done 31 _ 111 rfl rfl rfl
            have q112 : a'.tmps.getD 112 undef = undef := inv.done 32 _ 112 rfl rfl rfl
            have q113 : a'.tmps.getD 113 undef = Value.bool true := inv.done 33 _ 113 rfl rfl rfl
            clear inv
            simp only [List.filterMap_cons, List.filterMap_nil, Par.putAll, Act.put, List.setIfInBounds_toArray, List.set_cons_succ, List.set_cons_zero, q80, q81, q82, q83, q84, q85, q86, q87, q88, q89, q90, q91, q92, q93, q94, q95, q96, q97, q98, q99, q100, q101, q102, q103, q104, q105, q106, q107, q108, q109, q110, q111, q112, q113]
            clear q80 q81 q82 q83 q84 q85 q86 q87 q88 q89 q90 q91 q92 q93 q94 q95 q96 q97 q98 q99 q100 q101 q102 q103 q104 q105 q106 q107 q108 q109 q110 q111 q112 q113
            clear a'
            have HF3 := hid (HE5.out.trans hX)
            clear hX
            go_wp2
            go_returns
            have hnn := HT4.out
            rw [if_pos (by simp)] at hnn
            rw [← hnn]
            exact RFroP.none HF3.out
          cases b2
          case false =>
            refine Par.wp_region_par (l := [_, _, _, _, _, _, _, _, _, _, _, _, _, _, _, _, _, _, _, _, _, _, _, _, _, _, _, _, _, _, _, _, _, _]) rfl Ext (Par.VL [Par.EQ (Value.pointer (some ⟨rb, 0, none⟩)), Par.EQ (vN z1), Par.EQ (Value.bool true), Par.EQ (Value.bool false), Par.EQ (Value.bool false), Par.EQ (Value.pointer (some ⟨rb, 0, none⟩)), Par.EQ (vN z1), Par.EQ (vN F), Par.EQ (Value.pointer (some ⟨rb, 0, none⟩)), Par.EQ (vN z1), Par.EQ (Value.bool true), Par.EQ (Value.bool true), Par.EQ (Value.bool true), Par.EQ (undef), Par.EQ (undef), Par.EQ (undef), Par.EQ (undef), Par.EQ (Value.bool true), Par.EQ (Value.bool true), Par.EQ (undef), Par.EQ (undef), Par.EQ (undef), Par.EQ (undef), Par.EQ (undef), Par.EQ (undef), Par.EQ (undef), Par.EQ (undef), Par.EQ (undef), Par.EQ (undef), Par.EQ (undef), Par.EQ (undef), Par.EQ (undef), Par.EQ (undef), Par.EQ (Value.bool true)]) (by kernel_rfl) Ext.refl (fun _ _ _ h1 h2 => Ext.trans h1 h2) (Ext.draw _) (Par.VL_stab ?_) ?_ ?_
            · simp only [List.forall_mem_cons, List.not_mem_nil, false_implies, implies_true, and_true]
              refine ⟨fun _ _ _ _ h => h, fun _ _ _ _ h => h, fun _ _ _ _ h => h, fun _ _ _ _ h => h, fun _ _ _ _ h => h, fun _ _ _ _ h => h, fun _ _ _ _ h => h, fun _ _ _ _ h => h, fun _ _ _ _ h => h, fun _ _ _ _ h => h, fun _ _ _ _ h => h, fun _ _ _ _ h => h, fun _ _ _ _ h => h, fun _ _ _ _ h => h, fun _ _ _ _ h => h, fun _ _ _ _ h => h, fun _ _ _ _ h => h, fun _ _ _ _ h => h, fun _ _ _ _ h => h, fun _ _ _ _ h => h, fun _ _ _ _ h => h, fun _ _ _ _ h => h, fun _ _ _ _ h => h, fun _ _ _ _ h => h, fun _ _ _ _ h => h, fun _ _ _ _ h => h, fun _ _ _ _ h => h, fun _ _ _ _ h => h, fun _ _ _ _ h => h, fun _ _ _ _ h => h, fun _ _ _ _ h => h, fun _ _ _ _ h => h, fun _ _ _ _ h => h, fun _ _ _ _ h => h⟩
            · refine ⟨⟨fun _ _ => trivial, fun ρ w' hX hG hk => ?_⟩, ?_⟩
              · obtain ⟨k0, -⟩ := hk
                have e0 : ρ (.tmp 11) = pv rb := k0
                clear k0
                refine Par.val_k fun K hK => ?_
                unfold Par.val
                (go_simp; exact hK _ _ ⟨Ext.refl _, rfl⟩)
              refine ⟨⟨fun _ _ => trivial, fun ρ w' hX hG hk => ?_⟩, ?_⟩
              · obtain ⟨k0, -⟩ := hk
                have e0 : ρ (.tmp 80) = Value.pointer (some ⟨rb, 0, none⟩) := k0
                clear k0
                refine Par.val_k fun K hK => ?_
                unfold Par.val
                (have cc := (lk2 (hX.obj HB.out)).1; go_simp; exact hK _ _ ⟨Ext.refl _, rfl⟩)
              refine ⟨⟨fun _ _ => trivial, fun ρ w' hX hG hk => ?_⟩, ?_⟩
              · obtain ⟨k0, k1, -⟩ := hk
                have e0 := k0
                have e1 : ρ (.tmp 81) = vN z1 := k1
                clear k0 k1
                refine Par.val_k fun K hK => ?_
                unfold Par.val
                refine Par.val_call Tryd.func23 (by kernel_rfl) rfl e0 ?_
                simp only [List.map_toArray, List.map_cons, List.map_nil, e1]
                refine (rright3_any z1 _ (by have := HZL.out; omega)).mono ?_
                rintro e w2 ⟨rfl, hE⟩
                exact ⟨_, rfl, hK _ _ ⟨hE, (congrArg Value.bool HB1.out)⟩⟩
              refine ⟨⟨fun _ _ => trivial, fun ρ w' hX hG hk => ?_⟩, ?_⟩
              · obtain ⟨k0, -⟩ := hk
                have e0 : ρ (.tmp 82) = Value.bool true := k0
                clear k0
                refine Par.val_k fun K hK => ?_
                unfold Par.val
                (go_simp; exact hK _ _ ⟨Ext.refl _, rfl⟩)
              refine ⟨⟨fun _ _ => trivial, fun ρ w' hX hG hk => ?_⟩, ?_⟩
              · obtain ⟨k0, -⟩ := hk
                have e0 : ρ (.tmp 83) = Value.bool false := k0
                clear k0
                refine Par.val_k fun K hK => ?_
                unfold Par.val
                (go_simp; exact hK _ _ ⟨Ext.refl _, rfl⟩)
              refine ⟨⟨fun _ _ u hu => .inl hu, fun ρ w' hX hG hk => ?_⟩, ?_⟩
              · obtain ⟨k0, -⟩ := hk
                have e0 : ρ (.tmp 11) = pv rb := k0
                clear k0
                refine Par.val_k fun K hK => ?_
                unfold Par.val
                (go_simp; exact hK _ _ ⟨Ext.refl _, rfl⟩)
              refine ⟨⟨fun _ _ u hu => .inl hu, fun ρ w' hX hG hk => ?_⟩, ?_⟩
              · obtain ⟨k0, -⟩ := hk
                have e0 : ρ (.tmp 85) = Value.pointer (some ⟨rb, 0, none⟩) := k0
                clear k0
                refine Par.val_k fun K hK => ?_
                unfold Par.val
                (have cc := (lk2 (hX.obj HB.out)).1; go_simp; exact hK _ _ ⟨Ext.refl _, rfl⟩)
              refine ⟨⟨fun _ _ u hu => .inl hu, fun ρ w' hX hG hk => ?_⟩, ?_⟩
              · obtain ⟨k0, k1, -⟩ := hk
                have e0 := k0
                have e1 : ρ (.tmp 86) = vN z1 := k1
                clear k0 k1
                refine Par.val_k fun K hK => ?_
                unfold Par.val
                refine Par.val_call Tryd.func24 (by kernel_rfl) rfl e0 ?_
                simp only [List.map_toArray, List.map_cons, List.map_nil, e1]
                refine (rfold3_any z1 _ (by have := HZL.out; omega)).mono ?_
                rintro e w2 ⟨rfl, hE⟩
                exact ⟨_, rfl, hK _ _ ⟨hE, (congrArg (fun x => Value.string (str x)) HFF.out)⟩⟩
              refine ⟨⟨fun _ _ u hu => .inl hu, fun ρ w' hX hG hk => ?_⟩, ?_⟩
              · obtain ⟨k0, -⟩ := hk
                have e0 : ρ (.tmp 11) = pv rb := k0
                clear k0
                refine Par.val_k fun K hK => ?_
                unfold Par.val
                (go_simp; exact hK _ _ ⟨Ext.refl _, rfl⟩)
              refine ⟨⟨fun _ _ u hu => .inl hu, fun ρ w' hX hG hk => ?_⟩, ?_⟩
              · obtain ⟨k0, -⟩ := hk
                have e0 : ρ (.tmp 88) = Value.pointer (some ⟨rb, 0, none⟩) := k0
                clear k0
                refine Par.val_k fun K hK => ?_
                unfold Par.val
                (have cc := (lk2 (hX.obj HB.out)).1; go_simp; exact hK _ _ ⟨Ext.refl _, rfl⟩)
              refine ⟨⟨fun _ _ u hu => .inl hu, fun ρ w' hX hG hk => ?_⟩, ?_⟩
              · obtain ⟨k0, k1, -⟩ := hk
                have e0 : ρ (.tmp 87) = vN F := k0
                have e1 : ρ (.tmp 89) = vN z1 := k1
                clear k0 k1
                refine Par.val_k fun K hK => ?_
                unfold Par.val
                (go_simp; exact hK _ _ ⟨Ext.refl _, rfl⟩)
              refine ⟨⟨fun _ _ => trivial, fun ρ w' hX hG hk => ?_⟩, ?_⟩
              · obtain ⟨k0, k1, k2, -⟩ := hk
                have e0 : ρ (.tmp 84) = Value.bool false := k0
                have e1 : ρ (Operand.const (Value.bool true)) = (Value.bool true) := k1
                have e2 : ρ (.tmp 90) = Value.bool true := k2
                clear k0 k1 k2
                refine Par.val_k fun K hK => ?_
                unfold Par.val
                (go_simp; exact hK _ _ ⟨Ext.refl _, rfl⟩)
              refine ⟨⟨fun _ _ => trivial, fun ρ w' hX hG hk => ?_⟩, ?_⟩
              · obtain ⟨k0, -⟩ := hk
                have e0 : ρ (.tmp 91) = Value.bool true := k0
                clear k0
                refine Par.val_k fun K hK => ?_
                unfold Par.val
                (go_simp; exact hK _ _ ⟨Ext.refl _, rfl⟩)
              refine ⟨⟨fun _ _ u hu => .inr rfl, fun ρ w' hX hG hk => ?_⟩, ?_⟩
              · cases hG
              refine ⟨⟨fun _ _ u hu => .inr rfl, fun ρ w' hX hG hk => ?_⟩, ?_⟩
              · cases hG
              refine ⟨⟨fun _ _ u hu => .inr rfl, fun ρ w' hX hG hk => ?_⟩, ?_⟩
              · cases hG
              refine ⟨⟨fun _ _ u hu => .inr rfl, fun ρ w' hX hG hk => ?_⟩, ?_⟩
              · cases hG
              refine ⟨⟨fun _ _ => trivial, fun ρ w' hX hG hk => ?_⟩, ?_⟩
              · obtain ⟨k0, k1, k2, -⟩ := hk
                have e0 : ρ (.tmp 92) = Value.bool true := k0
                have e1 : ρ (Operand.const (Value.bool true)) = (Value.bool true) := k1
                have e2 : ρ (.tmp 96) = undef := k2
                clear k0 k1 k2
                refine Par.val_k fun K hK => ?_
                unfold Par.val
                (go_simp; exact hK _ _ ⟨Ext.refl _, rfl⟩)
              refine ⟨⟨fun _ _ => trivial, fun ρ w' hX hG hk => ?_⟩, ?_⟩
              · obtain ⟨k0, -⟩ := hk
                have e0 : ρ (.tmp 97) = Value.bool true := k0
                clear k0
                refine Par.val_k fun K hK => ?_
                unfold Par.val
                (go_simp; exact hK _ _ ⟨Ext.refl _, rfl⟩)
              refine ⟨⟨fun _ _ u hu => .inr rfl, fun ρ w' hX hG hk => ?_⟩, ?_⟩
              · cases hG
              refine ⟨⟨fun _ _ u hu => .inr rfl, fun ρ w' hX hG hk => ?_⟩, ?_⟩
              · cases hG
              refine ⟨⟨fun _ _ u hu => .inr rfl, fun ρ w' hX hG hk => ?_⟩, ?_⟩
              · cases hG
              refine ⟨⟨fun _ _ u hu => .inr rfl, fun ρ w' hX hG hk => ?_⟩, ?_⟩
              · cases hG
              refine ⟨⟨fun _ _ u hu => .inr rfl, fun ρ w' hX hG hk => ?_⟩, ?_⟩
              · cases hG
              refine ⟨⟨fun _ _ u hu => .inr rfl, fun ρ w' hX hG hk => ?_⟩, ?_⟩
              · cases hG
              refine ⟨⟨fun _ _ u hu => .inr rfl, fun ρ w' hX hG hk => ?_⟩, ?_⟩
              · cases hG
              refine ⟨⟨fun _ _ u hu => .inr rfl, fun ρ w' hX hG hk => ?_⟩, ?_⟩
              · cases hG
              refine ⟨⟨fun _ _ u hu => .inr rfl, fun ρ w' hX hG hk => ?_⟩, ?_⟩
              · cases hG
              refine ⟨⟨fun _ _ u hu => .inr rfl, fun ρ w' hX hG hk => ?_⟩, ?_⟩
              · cases hG
              refine ⟨⟨fun _ _ u hu => .inr rfl, fun ρ w' hX hG hk => ?_⟩, ?_⟩
              · cases hG
              refine ⟨⟨fun _ _ u hu => .inr rfl, fun ρ w' hX hG hk => ?_⟩, ?_⟩
              · cases hG
              refine ⟨⟨fun _ _ u hu => .inr rfl, fun ρ w' hX hG hk => ?_⟩, ?_⟩
              · cases hG
              refine ⟨⟨fun _ _ u hu => .inr rfl, fun ρ w' hX hG hk => ?_⟩, ?_⟩
              · cases hG
              refine ⟨⟨fun _ _ => trivial, fun ρ w' hX hG hk => ?_⟩, ?_⟩
              · obtain ⟨k0, k1, k2, -⟩ := hk
                have e0 : ρ (.tmp 98) = Value.bool true := k0
                have e1 : ρ (Operand.const (Value.bool true)) = (Value.bool true) := k1
                have e2 : ρ (.tmp 112) = undef := k2
                clear k0 k1 k2
                refine Par.val_k fun K hK => ?_
                unfold Par.val
                (go_simp; exact hK _ _ ⟨Ext.refl _, rfl⟩)
              trivial
            intro a' w' inv
            have hX := inv.ext
            have q80 : a'.tmps.getD 80 undef = Value.pointer (some ⟨rb, 0, none⟩) := inv.done 0 _ 80 rfl rfl rfl
            have q81 : a'.tmps.getD 81 undef = vN z1 := inv.done 1 _ 81 rfl rfl rfl
            have q82 : a'.tmps.getD 82 undef = Value.bool true := inv.done 2 _ 82 rfl rfl rfl
            have q83 : a'.tmps.getD 83 undef = Value.bool false := inv.done 3 _ 83 rfl rfl rfl
            have q84 : a'.tmps.getD 84 undef = Value.bool false := inv.done 4 _ 84 rfl rfl rfl
            have q85 : a'.tmps.getD 85 undef = Value.pointer (some ⟨rb, 0, none⟩) := inv.done 5 _ 85 rfl rfl rfl
            have q86 : a'.tmps.getD 86 undef = vN z1 := inv.done 6 _ 86 rfl rfl rfl
            have q87 : a'.tmps.getD 87 undef = vN F := inv.done 7 _ 87 rfl rfl rfl
            have q88 : a'.tmps.getD 88 undef = Value.pointer (some ⟨rb, 0, none⟩) := inv.done 8 _ 88 rfl rfl rfl
            have q89 : a'.tmps.getD 89 undef = vN z1 := inv.done 9 _ 89 rfl rfl rfl
            have q90 : a'.tmps.getD 90 undef = Value.bool true := inv.done 10 _ 90 rfl rfl rfl
            have q91 : a'.tmps.getD 91 undef = Value.bool true := inv.done 11 _ 91 rfl rfl rfl
            have q92 : a'.tmps.getD 92 undef = Value.bool true := inv.done 12 _ 92 rfl rfl rfl
            have q93 : a'.tmps.getD 93 undef = undef := inv.done 13 _ 93 rfl rfl rfl
            have q94 : a'.tmps.getD 94 undef = undef := inv.done 14 _ 94 rfl rfl rfl
            have q95 : a'.tmps.getD 95 undef = undef := inv.done 15 _ 95 rfl rfl rfl
            have q96 : a'.tmps.getD 96 undef = undef := inv.done 16 _ 96 rfl rfl rfl
            have q97 : a'.tmps.getD 97 undef = Value.bool true := inv.done 17 _ 97 rfl rfl rfl
            have q98 : a'.tmps.getD 98 undef = Value.bool true := inv.done 18 _ 98 rfl rfl rfl
            have q99 : a'.tmps.getD 99 undef = undef := inv.done 19 _ 99 rfl rfl rfl
            have q100 : a'.tmps.getD 100 undef = undef := inv.done 20 _ 100 rfl rfl rfl
            have q101 : a'.tmps.getD 101 undef = undef := inv.done 21 _ 101 rfl rfl rfl
            have q102 : a'.tmps.getD 102 undef = undef := inv.done 22 _ 102 rfl rfl rfl
            have q103 : a'.tmps.getD 103 undef = undef := inv.done 23 _ 103 rfl rfl rfl
            have q104 : a'.tmps.getD 104 undef = undef := inv.done 24 _ 104 rfl rfl rfl
            have q105 : a'.tmps.getD 105 undef = undef := inv.done 25 _ 105 rfl rfl rfl
            have q106 : a'.tmps.getD 106 undef = undef := inv.done 26 _ 106 rfl rfl rfl
            have q107 : a'.tmps.getD 107 undef = undef := inv.done 27 _ 107 rfl rfl rfl
            have q108 : a'.tmps.getD 108 undef = undef := inv.done 28 _ 108 rfl rfl rfl
            have q109 : a'.tmps.getD 109 undef = undef := inv.done 29 _ 109 rfl rfl rfl
            have q110 : a'.tmps.getD 110 undef = undef := inv.done 30 _ 110 rfl rfl rfl
            have q111 : a'.tmps.getD 111 undef = undef := inv.done 31 _ 111 rfl rfl rfl
            have q112 : a'.tmps.getD 112 undef = undef := inv.done 32 _ 112 rfl rfl rfl
            have q113 : a'.tmps.getD 113 undef = Value.bool true := inv.done 33 _ 113 rfl rfl rfl
            clear inv
            simp only [List.filterMap_cons, List.filterMap_nil, Par.putAll, Act.put, List.setIfInBounds_toArray, List.set_cons_succ, List.set_cons_zero, q80, q81, q82, q83, q84, q85, q86, q87, q88, q89, q90, q91, q92, q93, q94, q95, q96, q97, q98, q99, q100, q101, q102, q103, q104, q105, q106, q107, q108, q109, q110, q111, q112, q113]
            clear q80 q81 q82 q83 q84 q85 q86 q87 q88 q89 q90 q91 q92 q93 q94 q95 q96 q97 q98 q99 q100 q101 q102 q103 q104 q105 q106 q107 q108 q109 q110 q111 q112 q113
            clear a'
            have HF3 := hid (HE5.out.trans hX)
            clear hX
            go_wp2
            go_returns
            have hnn := HT4.out
            rw [if_pos (by simp)] at hnn
            rw [← hnn]
            exact RFroP.none HF3.out
          cases b3
          case true =>
            refine Par.wp_region_par (l := [_, _, _, _, _, _, _, _, _, _, _, _, _, _, _, _, _, _, _, _, _, _, _, _, _, _, _, _, _, _, _, _, _, _]) rfl Ext (Par.VL [Par.EQ (Value.pointer (some ⟨rb, 0, none⟩)), Par.EQ (vN z1), Par.EQ (Value.bool true), Par.EQ (Value.bool false), Par.EQ (Value.bool false), Par.EQ (Value.pointer (some ⟨rb, 0, none⟩)), Par.EQ (vN z1), Par.EQ (vN F), Par.EQ (Value.pointer (some ⟨rb, 0, none⟩)), Par.EQ (vN z1), Par.EQ (Value.bool false), Par.EQ (Value.bool false), Par.EQ (Value.bool false), Par.EQ (Value.pointer (some ⟨rb, 1, none⟩)), Par.EQ (vU z2), Par.EQ (vU last), Par.EQ (Value.bool true), Par.EQ (Value.bool true), Par.EQ (Value.bool true), Par.EQ (undef), Par.EQ (undef), Par.EQ (undef), Par.EQ (undef), Par.EQ (undef), Par.EQ (undef), Par.EQ (undef), Par.EQ (undef), Par.EQ (undef), Par.EQ (undef), Par.EQ (undef), Par.EQ (undef), Par.EQ (undef), Par.EQ (undef), Par.EQ (Value.bool true)]) (by kernel_rfl) Ext.refl (fun _ _ _ h1 h2 => Ext.trans h1 h2) (Ext.draw _) (Par.VL_stab ?_) ?_ ?_
            · simp only [List.forall_mem_cons, List.not_mem_nil, false_implies, implies_true, and_true]
              refine ⟨fun _ _ _ _ h => h, fun _ _ _ _ h => h, fun _ _ _ _ h => h, fun _ _ _ _ h => h, fun _ _ _ _ h => h, fun _ _ _ _ h => h, fun _ _ _ _ h => h, fun _ _ _ _ h => h, fun _ _ _ _ h => h, fun _ _ _ _ h => h, fun _ _ _ _ h => h, fun _ _ _ _ h => h, fun _ _ _ _ h => h, fun _ _ _ _ h => h, fun _ _ _ _ h => h, fun _ _ _ _ h => h, fun _ _ _ _ h => h, fun _ _ _ _ h => h, fun _ _ _ _ h => h, fun _ _ _ _ h => h, fun _ _ _ _ h => h, fun _ _ _ _ h => h, fun _ _ _ _ h => h, fun _ _ _ _ h => h, fun _ _ _ _ h => h, fun _ _ _ _ h => h, fun _ _ _ _ h => h, fun _ _ _ _ h => h, fun _ _ _ _ h => h, fun _ _ _ _ h => h, fun _ _ _ _ h => h, fun _ _ _ _ h => h, fun _ _ _ _ h => h, fun _ _ _ _ h => h⟩
            · refine ⟨⟨fun _ _ => trivial, fun ρ w' hX hG hk => ?_⟩, ?_⟩
              · obtain ⟨k0, -⟩ := hk
                have e0 : ρ (.tmp 11) = pv rb := k0
                clear k0
                refine Par.val_k fun K hK => ?_
                unfold Par.val
                (go_simp; exact hK _ _ ⟨Ext.refl _, rfl⟩)
              refine ⟨⟨fun _ _ => trivial, fun ρ w' hX hG hk => ?_⟩, ?_⟩
              · obtain ⟨k0, -⟩ := hk
                have e0 : ρ (.tmp 80) = Value.pointer (some ⟨rb, 0, none⟩) := k0
                clear k0
                refine Par.val_k fun K hK => ?_
                unfold Par.val
                (have cc := (lk2 (hX.obj HB.out)).1; go_simp; exact hK _ _ ⟨Ext.refl _, rfl⟩)
              refine ⟨⟨fun _ _ => trivial, fun ρ w' hX hG hk => ?_⟩, ?_⟩
              · obtain ⟨k0, k1, -⟩ := hk
                have e0 := k0
                have e1 : ρ (.tmp 81) = vN z1 := k1
                clear k0 k1
                refine Par.val_k fun K hK => ?_
                unfold Par.val
                refine Par.val_call Tryd.func23 (by kernel_rfl) rfl e0 ?_
                simp only [List.map_toArray, List.map_cons, List.map_nil, e1]
                refine (rright3_any z1 _ (by have := HZL.out; omega)).mono ?_
                rintro e w2 ⟨rfl, hE⟩
                exact ⟨_, rfl, hK _ _ ⟨hE, (congrArg Value.bool HB1.out)⟩⟩
              refine ⟨⟨fun _ _ => trivial, fun ρ w' hX hG hk => ?_⟩, ?_⟩
              · obtain ⟨k0, -⟩ := hk
                have e0 : ρ (.tmp 82) = Value.bool true := k0
                clear k0
                refine Par.val_k fun K hK => ?_
                unfold Par.val
                (go_simp; exact hK _ _ ⟨Ext.refl _, rfl⟩)
              refine ⟨⟨fun _ _ => trivial, fun ρ w' hX hG hk => ?_⟩, ?_⟩
              · obtain ⟨k0, -⟩ := hk
                have e0 : ρ (.tmp 83) = Value.bool false := k0
                clear k0
                refine Par.val_k fun K hK => ?_
                unfold Par.val
                (go_simp; exact hK _ _ ⟨Ext.refl _, rfl⟩)
              refine ⟨⟨fun _ _ u hu => .inl hu, fun ρ w' hX hG hk => ?_⟩, ?_⟩
              · obtain ⟨k0, -⟩ := hk
                have e0 : ρ (.tmp 11) = pv rb := k0
                clear k0
                refine Par.val_k fun K hK => ?_
                unfold Par.val
                (go_simp; exact hK _ _ ⟨Ext.refl _, rfl⟩)
              refine ⟨⟨fun _ _ u hu => .inl hu, fun ρ w' hX hG hk => ?_⟩, ?_⟩
              · obtain ⟨k0, -⟩ := hk
                have e0 : ρ (.tmp 85) = Value.pointer (some ⟨rb, 0, none⟩) := k0
                clear k0
                refine Par.val_k fun K hK => ?_
                unfold Par.val
                (have cc := (lk2 (hX.obj HB.out)).1; go_simp; exact hK _ _ ⟨Ext.refl _, rfl⟩)
              refine ⟨⟨fun _ _ u hu => .inl hu, fun ρ w' hX hG hk => ?_⟩, ?_⟩
              · obtain ⟨k0, k1, -⟩ := hk
                have e0 := k0
                have e1 : ρ (.tmp 86) = vN z1 := k1
                clear k0 k1
                refine Par.val_k fun K hK => ?_
                unfold Par.val
                refine Par.val_call Tryd.func24 (by kernel_rfl) rfl e0 ?_
                simp only [List.map_toArray, List.map_cons, List.map_nil, e1]
                refine (rfold3_any z1 _ (by have := HZL.out; omega)).mono ?_
                rintro e w2 ⟨rfl, hE⟩
                exact ⟨_, rfl, hK _ _ ⟨hE, (congrArg (fun x => Value.string (str x)) HFF.out)⟩⟩
              refine ⟨⟨fun _ _ u hu => .inl hu, fun ρ w' hX hG hk => ?_⟩, ?_⟩
              · obtain ⟨k0, -⟩ := hk
                have e0 : ρ (.tmp 11) = pv rb := k0
                clear k0
                refine Par.val_k fun K hK => ?_
                unfold Par.val
                (go_simp; exact hK _ _ ⟨Ext.refl _, rfl⟩)
              refine ⟨⟨fun _ _ u hu => .inl hu, fun ρ w' hX hG hk => ?_⟩, ?_⟩
              · obtain ⟨k0, -⟩ := hk
                have e0 : ρ (.tmp 88) = Value.pointer (some ⟨rb, 0, none⟩) := k0
                clear k0
                refine Par.val_k fun K hK => ?_
                unfold Par.val
                (have cc := (lk2 (hX.obj HB.out)).1; go_simp; exact hK _ _ ⟨Ext.refl _, rfl⟩)
              refine ⟨⟨fun _ _ u hu => .inl hu, fun ρ w' hX hG hk => ?_⟩, ?_⟩
              · obtain ⟨k0, k1, -⟩ := hk
                have e0 : ρ (.tmp 87) = vN F := k0
                have e1 : ρ (.tmp 89) = vN z1 := k1
                clear k0 k1
                refine Par.val_k fun K hK => ?_
                unfold Par.val
                (go_simp; exact hK _ _ ⟨Ext.refl _, rfl⟩)
              refine ⟨⟨fun _ _ => trivial, fun ρ w' hX hG hk => ?_⟩, ?_⟩
              · obtain ⟨k0, k1, k2, -⟩ := hk
                have e0 : ρ (.tmp 84) = Value.bool false := k0
                have e1 : ρ (Operand.const (Value.bool true)) = (Value.bool true) := k1
                have e2 : ρ (.tmp 90) = Value.bool false := k2
                clear k0 k1 k2
                refine Par.val_k fun K hK => ?_
                unfold Par.val
                (go_simp; exact hK _ _ ⟨Ext.refl _, rfl⟩)
              refine ⟨⟨fun _ _ => trivial, fun ρ w' hX hG hk => ?_⟩, ?_⟩
              · obtain ⟨k0, -⟩ := hk
                have e0 : ρ (.tmp 91) = Value.bool false := k0
                clear k0
                refine Par.val_k fun K hK => ?_
                unfold Par.val
                (go_simp; exact hK _ _ ⟨Ext.refl _, rfl⟩)
              refine ⟨⟨fun _ _ u hu => .inl hu, fun ρ w' hX hG hk => ?_⟩, ?_⟩
              · obtain ⟨k0, -⟩ := hk
                have e0 : ρ (.tmp 11) = pv rb := k0
                clear k0
                refine Par.val_k fun K hK => ?_
                unfold Par.val
                (go_simp; exact hK _ _ ⟨Ext.refl _, rfl⟩)
              refine ⟨⟨fun _ _ u hu => .inl hu, fun ρ w' hX hG hk => ?_⟩, ?_⟩
              · obtain ⟨k0, -⟩ := hk
                have e0 : ρ (.tmp 93) = Value.pointer (some ⟨rb, 1, none⟩) := k0
                clear k0
                refine Par.val_k fun K hK => ?_
                unfold Par.val
                (have cc := (lk2 (hX.obj HB.out)).2.1; go_simp; exact hK _ _ ⟨Ext.refl _, rfl⟩)
              refine ⟨⟨fun _ _ u hu => .inl hu, fun ρ w' hX hG hk => ?_⟩, ?_⟩
              · obtain ⟨k0, -⟩ := hk
                have e0 : ρ (.tmp 0) = vU last := k0
                clear k0
                refine Par.val_k fun K hK => ?_
                unfold Par.val
                (go_simp; exact hK _ _ ⟨Ext.refl _, rfl⟩)
              refine ⟨⟨fun _ _ u hu => .inl hu, fun ρ w' hX hG hk => ?_⟩, ?_⟩
              · obtain ⟨k0, k1, -⟩ := hk
                have e0 : ρ (.tmp 94) = vU z2 := k0
                have e1 : ρ (.tmp 95) = vU last := k1
                clear k0 k1
                refine Par.val_k fun K hK => ?_
                unfold Par.val
                (go_simp; exact hK _ _ ⟨Ext.refl _, rfl⟩)
              refine ⟨⟨fun _ _ => trivial, fun ρ w' hX hG hk => ?_⟩, ?_⟩
              · obtain ⟨k0, k1, k2, -⟩ := hk
                have e0 : ρ (.tmp 92) = Value.bool false := k0
                have e1 : ρ (Operand.const (Value.bool true)) = (Value.bool true) := k1
                have e2 : ρ (.tmp 96) = Value.bool true := k2
                clear k0 k1 k2
                refine Par.val_k fun K hK => ?_
                unfold Par.val
                (go_simp; exact hK _ _ ⟨Ext.refl _, rfl⟩)
              refine ⟨⟨fun _ _ => trivial, fun ρ w' hX hG hk => ?_⟩, ?_⟩
              · obtain ⟨k0, -⟩ := hk
                have e0 : ρ (.tmp 97) = Value.bool true := k0
                clear k0
                refine Par.val_k fun K hK => ?_
                unfold Par.val
                (go_simp; exact hK _ _ ⟨Ext.refl _, rfl⟩)
              refine ⟨⟨fun _ _ u hu => .inr rfl, fun ρ w' hX hG hk => ?_⟩, ?_⟩
              · cases hG
              refine ⟨⟨fun _ _ u hu => .inr rfl, fun ρ w' hX hG hk => ?_⟩, ?_⟩
              · cases hG
              refine ⟨⟨fun _ _ u hu => .inr rfl, fun ρ w' hX hG hk => ?_⟩, ?_⟩
              · cases hG
              refine ⟨⟨fun _ _ u hu => .inr rfl, fun ρ w' hX hG hk => ?_⟩, ?_⟩
              · cases hG
              refine ⟨⟨fun _ _ u hu => .inr rfl, fun ρ w' hX hG hk => ?_⟩, ?_⟩
              · cases hG
              refine ⟨⟨fun _ _ u hu => .inr rfl, fun ρ w' hX hG hk => ?_⟩, ?_⟩
              · cases hG
              refine ⟨⟨fun _ _ u hu => .inr rfl, fun ρ w' hX hG hk => ?_⟩, ?_⟩
              · cases hG
              refine ⟨⟨fun _ _ u hu => .inr rfl, fun ρ w' hX hG hk => ?_⟩, ?_⟩
              · cases hG
              refine ⟨⟨fun _ _ u hu => .inr rfl, fun ρ w' hX hG hk => ?_⟩, ?_⟩
              · cases hG
              refine ⟨⟨fun _ _ u hu => .inr rfl, fun ρ w' hX hG hk => ?_⟩, ?_⟩
              · cases hG
              refine ⟨⟨fun _ _ u hu => .inr rfl, fun ρ w' hX hG hk => ?_⟩, ?_⟩
              · cases hG
              refine ⟨⟨fun _ _ u hu => .inr rfl, fun ρ w' hX hG hk => ?_⟩, ?_⟩
              · cases hG
              refine ⟨⟨fun _ _ u hu => .inr rfl, fun ρ w' hX hG hk => ?_⟩, ?_⟩
              · cases hG
              refine ⟨⟨fun _ _ u hu => .inr rfl, fun ρ w' hX hG hk => ?_⟩, ?_⟩
              · cases hG
              refine ⟨⟨fun _ _ => trivial, fun ρ w' hX hG hk => ?_⟩, ?_⟩
              · obtain ⟨k0, k1, k2, -⟩ := hk
                have e0 : ρ (.tmp 98) = Value.bool true := k0
                have e1 : ρ (Operand.const (Value.bool true)) = (Value.bool true) := k1
                have e2 : ρ (.tmp 112) = undef := k2
                clear k0 k1 k2
                refine Par.val_k fun K hK => ?_
                unfold Par.val
                (go_simp; exact hK _ _ ⟨Ext.refl _, rfl⟩)
              trivial
            intro a' w' inv
            have hX := inv.ext
            have q80 : a'.tmps.getD 80 undef = Value.pointer (some ⟨rb, 0, none⟩) := inv.done 0 _ 80 rfl rfl rfl
            have q81 : a'.tmps.getD 81 undef = vN z1 := inv.done 1 _ 81 rfl rfl rfl
            have q82 : a'.tmps.getD 82 undef = Value.bool true := inv.done 2 _ 82 rfl rfl rfl
            have q83 : a'.tmps.getD 83 undef = Value.bool false := inv.done 3 _ 83 rfl rfl rfl
            have q84 : a'.tmps.getD 84 undef = Value.bool false := inv.done 4 _ 84 rfl rfl rfl
            have q85 : a'.tmps.getD 85 undef = Value.pointer (some ⟨rb, 0, none⟩) := inv.done 5 _ 85 rfl rfl rfl
            have q86 : a'.tmps.getD 86 undef = vN z1 := inv.done 6 _ 86 rfl rfl rfl
            have q87 : a'.tmps.getD 87 undef = vN F := inv.done 7 _ 87 rfl rfl rfl
            have q88 : a'.tmps.getD 88 undef = Value.pointer (some ⟨rb, 0, none⟩) := inv.done 8 _ 88 rfl rfl rfl
            have q89 : a'.tmps.getD 89 undef = vN z1 := inv.done 9 _ 89 rfl rfl rfl
            have q90 : a'.tmps.getD 90 undef = Value.bool false := inv.done 10 _ 90 rfl rfl rfl
            have q91 : a'.tmps.getD 91 undef = Value.bool false := inv.done 11 _ 91 rfl rfl rfl
            have q92 : a'.tmps.getD 92 undef = Value.bool false := inv.done 12 _ 92 rfl rfl rfl
            have q93 : a'.tmps.getD 93 undef = Value.pointer (some ⟨rb, 1, none⟩) := inv.done 13 _ 93 rfl rfl rfl
            have q94 : a'.tmps.getD 94 undef = vU z2 := inv.done 14 _ 94 rfl rfl rfl
            have q95 : a'.tmps.getD 95 undef = vU last := inv.done 15 _ 95 rfl rfl rfl
            have q96 : a'.tmps.getD 96 undef = Value.bool true := inv.done 16 _ 96 rfl rfl rfl
            have q97 : a'.tmps.getD 97 undef = Value.bool true := inv.done 17 _ 97 rfl rfl rfl
            have q98 : a'.tmps.getD 98 undef = Value.bool true := inv.done 18 _ 98 rfl rfl rfl
            have q99 : a'.tmps.getD 99 undef = undef := inv.done 19 _ 99 rfl rfl rfl
            have q100 : a'.tmps.getD 100 undef = undef := inv.done 20 _ 100 rfl rfl rfl
            have q101 : a'.tmps.getD 101 undef = undef := inv.done 21 _ 101 rfl rfl rfl
            have q102 : a'.tmps.getD 102 undef = undef := inv.done 22 _ 102 rfl rfl rfl
            have q103 : a'.tmps.getD 103 undef = undef := inv.done 23 _ 103 rfl rfl rfl
            have q104 : a'.tmps.getD 104 undef = undef := inv.done 24 _ 104 rfl rfl rfl
            have q105 : a'.tmps.getD 105 undef = undef := inv.done 25 _ 105 rfl rfl rfl
            have q106 : a'.tmps.getD 106 undef = undef := inv.done 26 _ 106 rfl rfl rfl
            have q107 : a'.tmps.getD 107 undef = undef := inv.done 27 _ 107 rfl rfl rfl
            have q108 : a'.tmps.getD 108 undef = undef := inv.done 28 _ 108 rfl rfl rfl
            have q109 : a'.tmps.getD 109 undef = undef := inv.done 29 _ 109 rfl rfl rfl
            have q110 : a'.tmps.getD 110 undef = undef := inv.done 30 _ 110 rfl rfl rfl
            have q111 : a'.tmps.getD 111 undef = undef := inv.done 31 _ 111 rfl rfl rfl
            have q112 : a'.tmps.getD 112 undef = undef := inv.done 32 _ 112 rfl rfl rfl
            have q113 : a'.tmps.getD 113 undef = Value.bool true := inv.done 33 _ 113 rfl rfl rfl
            clear inv
            simp only [List.filterMap_cons, List.filterMap_nil, Par.putAll, Act.put, List.setIfInBounds_toArray, List.set_cons_succ, List.set_cons_zero, q80, q81, q82, q83, q84, q85, q86, q87, q88, q89, q90, q91, q92, q93, q94, q95, q96, q97, q98, q99, q100, q101, q102, q103, q104, q105, q106, q107, q108, q109, q110, q111, q112, q113]
            clear q80 q81 q82 q83 q84 q85 q86 q87 q88 q89 q90 q91 q92 q93 q94 q95 q96 q97 q98 q99 q100 q101 q102 q103 q104 q105 q106 q107 q108 q109 q110 q111 q112 q113
            clear a'
            have HF3 := hid (HE5.out.trans hX)
            clear hX
            go_wp2
            go_returns
            have hnn := HT4.out
            rw [if_pos (by simp)] at hnn
            rw [← hnn]
            exact RFroP.none HF3.out
          rcases Nat.eq_zero_or_pos k with rfl | hkp
          · have e4 : b4 = true := by rw [← HB4.out]; rfl
            subst e4
            have hpos : decide ((0 : Int) < ((0 : Nat) : Int)) = false := by simp
            refine Par.wp_region_par (l := [_, _, _, _, _, _, _, _, _, _, _, _, _, _, _, _, _, _, _, _, _, _, _, _, _, _, _, _, _, _, _, _, _, _]) rfl Ext (Par.VL [Par.EQ (Value.pointer (some ⟨rb, 0, none⟩)), Par.EQ (vN z1), Par.EQ (Value.bool true), Par.EQ (Value.bool false), Par.EQ (Value.bool false), Par.EQ (Value.pointer (some ⟨rb, 0, none⟩)), Par.EQ (vN z1), Par.EQ (vN F), Par.EQ (Value.pointer (some ⟨rb, 0, none⟩)), Par.EQ (vN z1), Par.EQ (Value.bool false), Par.EQ (Value.bool false), Par.EQ (Value.bool false), Par.EQ (Value.pointer (some ⟨rb, 1, none⟩)), Par.EQ (vU z2), Par.EQ (vU last), Par.EQ (Value.bool false), Par.EQ (Value.bool false), Par.EQ (Value.bool false), Par.EQ (Value.int IntKind.i64 0), Par.EQ (Value.bool false), Par.EQ (Value.bool false), Par.EQ (undef), Par.EQ (undef), Par.EQ (undef), Par.EQ (undef), Par.EQ (undef), Par.EQ (undef), Par.EQ (undef), Par.EQ (undef), Par.EQ (undef), Par.EQ (undef), Par.EQ (Value.bool false), Par.EQ (Value.bool false)]) (by kernel_rfl) Ext.refl (fun _ _ _ h1 h2 => Ext.trans h1 h2) (Ext.draw _) (Par.VL_stab ?_) ?_ ?_
            · simp only [List.forall_mem_cons, List.not_mem_nil, false_implies, implies_true, and_true]
              refine ⟨fun _ _ _ _ h => h, fun _ _ _ _ h => h, fun _ _ _ _ h => h, fun _ _ _ _ h => h, fun _ _ _ _ h => h, fun _ _ _ _ h => h, fun _ _ _ _ h => h, fun _ _ _ _ h => h, fun _ _ _ _ h => h, fun _ _ _ _ h => h, fun _ _ _ _ h => h, fun _ _ _ _ h => h, fun _ _ _ _ h => h, fun _ _ _ _ h => h, fun _ _ _ _ h => h, fun _ _ _ _ h => h, fun _ _ _ _ h => h, fun _ _ _ _ h => h, fun _ _ _ _ h => h, fun _ _ _ _ h => h, fun _ _ _ _ h => h, fun _ _ _ _ h => h, fun _ _ _ _ h => h, fun _ _ _ _ h => h, fun _ _ _ _ h => h, fun _ _ _ _ h => h, fun _ _ _ _ h => h, fun _ _ _ _ h => h, fun _ _ _ _ h => h, fun _ _ _ _ h => h, fun _ _ _ _ h => h, fun _ _ _ _ h => h, fun _ _ _ _ h => h, fun _ _ _ _ h => h⟩
            · refine ⟨⟨fun _ _ => trivial, fun ρ w' hX hG hk => ?_⟩, ?_⟩
              · obtain ⟨k0, -⟩ := hk
                have e0 : ρ (.tmp 11) = pv rb := k0
                clear k0
                refine Par.val_k fun K hK => ?_
                unfold Par.val
                (go_simp; exact hK _ _ ⟨Ext.refl _, rfl⟩)
              refine ⟨⟨fun _ _ => trivial, fun ρ w' hX hG hk => ?_⟩, ?_⟩
              · obtain ⟨k0, -⟩ := hk
                have e0 : ρ (.tmp 80) = Value.pointer (some ⟨rb, 0, none⟩) := k0
                clear k0
                refine Par.val_k fun K hK => ?_
                unfold Par.val
                (have cc := (lk2 (hX.obj HB.out)).1; go_simp; exact hK _ _ ⟨Ext.refl _, rfl⟩)
              refine ⟨⟨fun _ _ => trivial, fun ρ w' hX hG hk => ?_⟩, ?_⟩
              · obtain ⟨k0, k1, -⟩ := hk
                have e0 := k0
                have e1 : ρ (.tmp 81) = vN z1 := k1
                clear k0 k1
                refine Par.val_k fun K hK => ?_
                unfold Par.val
                refine Par.val_call Tryd.func23 (by kernel_rfl) rfl e0 ?_
                simp only [List.map_toArray, List.map_cons, List.map_nil, e1]
                refine (rright3_any z1 _ (by have := HZL.out; omega)).mono ?_
                rintro e w2 ⟨rfl, hE⟩
                exact ⟨_, rfl, hK _ _ ⟨hE, (congrArg Value.bool HB1.out)⟩⟩
              refine ⟨⟨fun _ _ => trivial, fun ρ w' hX hG hk => ?_⟩, ?_⟩
              · obtain ⟨k0, -⟩ := hk
                have e0 : ρ (.tmp 82) = Value.bool true := k0
                clear k0
                refine Par.val_k fun K hK => ?_
                unfold Par.val
                (go_simp; exact hK _ _ ⟨Ext.refl _, rfl⟩)
              refine ⟨⟨fun _ _ => trivial, fun ρ w' hX hG hk => ?_⟩, ?_⟩
              · obtain ⟨k0, -⟩ := hk
                have e0 : ρ (.tmp 83) = Value.bool false := k0
                clear k0
                refine Par.val_k fun K hK => ?_
                unfold Par.val
                (go_simp; exact hK _ _ ⟨Ext.refl _, rfl⟩)
              refine ⟨⟨fun _ _ u hu => .inl hu, fun ρ w' hX hG hk => ?_⟩, ?_⟩
              · obtain ⟨k0, -⟩ := hk
                have e0 : ρ (.tmp 11) = pv rb := k0
                clear k0
                refine Par.val_k fun K hK => ?_
                unfold Par.val
                (go_simp; exact hK _ _ ⟨Ext.refl _, rfl⟩)
              refine ⟨⟨fun _ _ u hu => .inl hu, fun ρ w' hX hG hk => ?_⟩, ?_⟩
              · obtain ⟨k0, -⟩ := hk
                have e0 : ρ (.tmp 85) = Value.pointer (some ⟨rb, 0, none⟩) := k0
                clear k0
                refine Par.val_k fun K hK => ?_
                unfold Par.val
                (have cc := (lk2 (hX.obj HB.out)).1; go_simp; exact hK _ _ ⟨Ext.refl _, rfl⟩)
              refine ⟨⟨fun _ _ u hu => .inl hu, fun ρ w' hX hG hk => ?_⟩, ?_⟩
              · obtain ⟨k0, k1, -⟩ := hk
                have e0 := k0
                have e1 : ρ (.tmp 86) = vN z1 := k1
                clear k0 k1
                refine Par.val_k fun K hK => ?_
                unfold Par.val
                refine Par.val_call Tryd.func24 (by kernel_rfl) rfl e0 ?_
                simp only [List.map_toArray, List.map_cons, List.map_nil, e1]
                refine (rfold3_any z1 _ (by have := HZL.out; omega)).mono ?_
                rintro e w2 ⟨rfl, hE⟩
                exact ⟨_, rfl, hK _ _ ⟨hE, (congrArg (fun x => Value.string (str x)) HFF.out)⟩⟩
              refine ⟨⟨fun _ _ u hu => .inl hu, fun ρ w' hX hG hk => ?_⟩, ?_⟩
              · obtain ⟨k0, -⟩ := hk
                have e0 : ρ (.tmp 11) = pv rb := k0
                clear k0
                refine Par.val_k fun K hK => ?_
                unfold Par.val
                (go_simp; exact hK _ _ ⟨Ext.refl _, rfl⟩)
              refine ⟨⟨fun _ _ u hu => .inl hu, fun ρ w' hX hG hk => ?_⟩, ?_⟩
              · obtain ⟨k0, -⟩ := hk
                have e0 : ρ (.tmp 88) = Value.pointer (some ⟨rb, 0, none⟩) := k0
                clear k0
                refine Par.val_k fun K hK => ?_
                unfold Par.val
                (have cc := (lk2 (hX.obj HB.out)).1; go_simp; exact hK _ _ ⟨Ext.refl _, rfl⟩)
              refine ⟨⟨fun _ _ u hu => .inl hu, fun ρ w' hX hG hk => ?_⟩, ?_⟩
              · obtain ⟨k0, k1, -⟩ := hk
                have e0 : ρ (.tmp 87) = vN F := k0
                have e1 : ρ (.tmp 89) = vN z1 := k1
                clear k0 k1
                refine Par.val_k fun K hK => ?_
                unfold Par.val
                (go_simp; exact hK _ _ ⟨Ext.refl _, rfl⟩)
              refine ⟨⟨fun _ _ => trivial, fun ρ w' hX hG hk => ?_⟩, ?_⟩
              · obtain ⟨k0, k1, k2, -⟩ := hk
                have e0 : ρ (.tmp 84) = Value.bool false := k0
                have e1 : ρ (Operand.const (Value.bool true)) = (Value.bool true) := k1
                have e2 : ρ (.tmp 90) = Value.bool false := k2
                clear k0 k1 k2
                refine Par.val_k fun K hK => ?_
                unfold Par.val
                (go_simp; exact hK _ _ ⟨Ext.refl _, rfl⟩)
              refine ⟨⟨fun _ _ => trivial, fun ρ w' hX hG hk => ?_⟩, ?_⟩
              · obtain ⟨k0, -⟩ := hk
                have e0 : ρ (.tmp 91) = Value.bool false := k0
                clear k0
                refine Par.val_k fun K hK => ?_
                unfold Par.val
                (go_simp; exact hK _ _ ⟨Ext.refl _, rfl⟩)
              refine ⟨⟨fun _ _ u hu => .inl hu, fun ρ w' hX hG hk => ?_⟩, ?_⟩
              · obtain ⟨k0, -⟩ := hk
                have e0 : ρ (.tmp 11) = pv rb := k0
                clear k0
                refine Par.val_k fun K hK => ?_
                unfold Par.val
                (go_simp; exact hK _ _ ⟨Ext.refl _, rfl⟩)
              refine ⟨⟨fun _ _ u hu => .inl hu, fun ρ w' hX hG hk => ?_⟩, ?_⟩
              · obtain ⟨k0, -⟩ := hk
                have e0 : ρ (.tmp 93) = Value.pointer (some ⟨rb, 1, none⟩) := k0
                clear k0
                refine Par.val_k fun K hK => ?_
                unfold Par.val
                (have cc := (lk2 (hX.obj HB.out)).2.1; go_simp; exact hK _ _ ⟨Ext.refl _, rfl⟩)
              refine ⟨⟨fun _ _ u hu => .inl hu, fun ρ w' hX hG hk => ?_⟩, ?_⟩
              · obtain ⟨k0, -⟩ := hk
                have e0 : ρ (.tmp 0) = vU last := k0
                clear k0
                refine Par.val_k fun K hK => ?_
                unfold Par.val
                (go_simp; exact hK _ _ ⟨Ext.refl _, rfl⟩)
              refine ⟨⟨fun _ _ u hu => .inl hu, fun ρ w' hX hG hk => ?_⟩, ?_⟩
              · obtain ⟨k0, k1, -⟩ := hk
                have e0 : ρ (.tmp 94) = vU z2 := k0
                have e1 : ρ (.tmp 95) = vU last := k1
                clear k0 k1
                refine Par.val_k fun K hK => ?_
                unfold Par.val
                (go_simp; exact hK _ _ ⟨Ext.refl _, rfl⟩)
              refine ⟨⟨fun _ _ => trivial, fun ρ w' hX hG hk => ?_⟩, ?_⟩
              · obtain ⟨k0, k1, k2, -⟩ := hk
                have e0 : ρ (.tmp 92) = Value.bool false := k0
                have e1 : ρ (Operand.const (Value.bool true)) = (Value.bool true) := k1
                have e2 : ρ (.tmp 96) = Value.bool false := k2
                clear k0 k1 k2
                refine Par.val_k fun K hK => ?_
                unfold Par.val
                (go_simp; exact hK _ _ ⟨Ext.refl _, rfl⟩)
              refine ⟨⟨fun _ _ => trivial, fun ρ w' hX hG hk => ?_⟩, ?_⟩
              · obtain ⟨k0, -⟩ := hk
                have e0 : ρ (.tmp 97) = Value.bool false := k0
                clear k0
                refine Par.val_k fun K hK => ?_
                unfold Par.val
                (go_simp; exact hK _ _ ⟨Ext.refl _, rfl⟩)
              refine ⟨⟨fun _ _ u hu => .inl hu, fun ρ w' hX hG hk => ?_⟩, ?_⟩
              · obtain ⟨k0, -⟩ := hk
                have e0 : ρ (.tmp 10) = Value.int IntKind.i64 0 := k0
                clear k0
                refine Par.val_k fun K hK => ?_
                unfold Par.val
                (go_simp; exact hK _ _ ⟨Ext.refl _, rfl⟩)
              refine ⟨⟨fun _ _ u hu => .inl hu, fun ρ w' hX hG hk => ?_⟩, ?_⟩
              · obtain ⟨k0, k1, -⟩ := hk
                have e0 : ρ (.tmp 99) = Value.int IntKind.i64 0 := k0
                have e1 : ρ (Operand.const (Value.int IntKind.i64 0)) = (Value.int IntKind.i64 0) := k1
                clear k0 k1
                refine Par.val_k fun K hK => ?_
                unfold Par.val
                (go_simp; exact hK _ _ ⟨Ext.refl _, rfl⟩)
              refine ⟨⟨fun _ _ u hu => .inl hu, fun ρ w' hX hG hk => ?_⟩, ?_⟩
              · obtain ⟨k0, -⟩ := hk
                have e0 : ρ (.tmp 100) = Value.bool false := k0
                clear k0
                refine Par.val_k fun K hK => ?_
                unfold Par.val
                (go_simp; exact hK _ _ ⟨Ext.refl _, rfl⟩)
              refine ⟨⟨fun _ _ u hu => .inr rfl, fun ρ w' hX hG hk => ?_⟩, ?_⟩
              · cases hG
              refine ⟨⟨fun _ _ u hu => .inr rfl, fun ρ w' hX hG hk => ?_⟩, ?_⟩
              · cases hG
              refine ⟨⟨fun _ _ u hu => .inr rfl, fun ρ w' hX hG hk => ?_⟩, ?_⟩
              · cases hG
              refine ⟨⟨fun _ _ u hu => .inr rfl, fun ρ w' hX hG hk => ?_⟩, ?_⟩
              · cases hG
              refine ⟨⟨fun _ _ u hu => .inr rfl, fun ρ w' hX hG hk => ?_⟩, ?_⟩
              · cases hG
              refine ⟨⟨fun _ _ u hu => .inr rfl, fun ρ w' hX hG hk => ?_⟩, ?_⟩
              · cases hG
              refine ⟨⟨fun _ _ u hu => .inr rfl, fun ρ w' hX hG hk => ?_⟩, ?_⟩
              · cases hG
              refine ⟨⟨fun _ _ u hu => .inr rfl, fun ρ w' hX hG hk => ?_⟩, ?_⟩
              · cases hG
              refine ⟨⟨fun _ _ u hu => .inr rfl, fun ρ w' hX hG hk => ?_⟩, ?_⟩
              · cases hG
              refine ⟨⟨fun _ _ u hu => .inr rfl, fun ρ w' hX hG hk => ?_⟩, ?_⟩
              · cases hG
              refine ⟨⟨fun _ _ u hu => .inl hu, fun ρ w' hX hG hk => ?_⟩, ?_⟩
              · obtain ⟨k0, k1, k2, -⟩ := hk
                have e0 : ρ (.tmp 101) = Value.bool false := k0
                have e1 : ρ (.tmp 111) = undef := k1
                have e2 : ρ (Operand.const (Value.bool false)) = (Value.bool false) := k2
                clear k0 k1 k2
                refine Par.val_k fun K hK => ?_
                unfold Par.val
                (go_simp; exact hK _ _ ⟨Ext.refl _, rfl⟩)
              refine ⟨⟨fun _ _ => trivial, fun ρ w' hX hG hk => ?_⟩, ?_⟩
              · obtain ⟨k0, k1, k2, -⟩ := hk
                have e0 : ρ (.tmp 98) = Value.bool false := k0
                have e1 : ρ (Operand.const (Value.bool true)) = (Value.bool true) := k1
                have e2 : ρ (.tmp 112) = Value.bool false := k2
                clear k0 k1 k2
                refine Par.val_k fun K hK => ?_
                unfold Par.val
                (go_simp; exact hK _ _ ⟨Ext.refl _, rfl⟩)
              trivial
            intro a' w' inv
            have hX := inv.ext
            have q80 : a'.tmps.getD 80 undef = Value.pointer (some ⟨rb, 0, none⟩) := inv.done 0 _ 80 rfl rfl rfl
            have q81 : a'.tmps.getD 81 undef = vN z1 := inv.done 1 _ 81 rfl rfl rfl
            have q82 : a'.tmps.getD 82 undef = Value.bool true := inv.done 2 _ 82 rfl rfl rfl
            have q83 : a'.tmps.getD 83 undef = Value.bool false := inv.done 3 _ 83 rfl rfl rfl
            have q84 : a'.tmps.getD 84 undef = Value.bool false := inv.done 4 _ 84 rfl rfl rfl
            have q85 : a'.tmps.getD 85 undef = Value.pointer (some ⟨rb, 0, none⟩) := inv.done 5 _ 85 rfl rfl rfl
            have q86 : a'.tmps.getD 86 undef = vN z1 := inv.done 6 _ 86 rfl rfl rfl
            have q87 : a'.tmps.getD 87 undef = vN F := inv.done 7 _ 87 rfl rfl rfl
            have q88 : a'.tmps.getD 88 undef = Value.pointer (some ⟨rb, 0, none⟩) := inv.done 8 _ 88 rfl rfl rfl
            have q89 : a'.tmps.getD 89 undef = vN z1 := inv.done 9 _ 89 rfl rfl rfl
            have q90 : a'.tmps.getD 90 undef = Value.bool false := inv.done 10 _ 90 rfl rfl rfl
            have q91 : a'.tmps.getD 91 undef = Value.bool false := inv.done 11 _ 91 rfl rfl rfl
            have q92 : a'.tmps.getD 92 undef = Value.bool false := inv.done 12 _ 92 rfl rfl rfl
            have q93 : a'.tmps.getD 93 undef = Value.pointer (some ⟨rb, 1, none⟩) := inv.done 13 _ 93 rfl rfl rfl
            have q94 : a'.tmps.getD 94 undef = vU z2 := inv.done 14 _ 94 rfl rfl rfl
            have q95 : a'.tmps.getD 95 undef = vU last := inv.done 15 _ 95 rfl rfl rfl
            have q96 : a'.tmps.getD 96 undef = Value.bool false := inv.done 16 _ 96 rfl rfl rfl
            have q97 : a'.tmps.getD 97 undef = Value.bool false := inv.done 17 _ 97 rfl rfl rfl
            have q98 : a'.tmps.getD 98 undef = Value.bool false := inv.done 18 _ 98 rfl rfl rfl
            have q99 : a'.tmps.getD 99 undef = Value.int IntKind.i64 0 := inv.done 19 _ 99 rfl rfl rfl
            have q100 : a'.tmps.getD 100 undef = Value.bool false := inv.done 20 _ 100 rfl rfl rfl
            have q101 : a'.tmps.getD 101 undef = Value.bool false := inv.done 21 _ 101 rfl rfl rfl
            have q102 : a'.tmps.getD 102 undef = undef := inv.done 22 _ 102 rfl rfl rfl
            have q103 : a'.tmps.getD 103 undef = undef := inv.done 23 _ 103 rfl rfl rfl
            have q104 : a'.tmps.getD 104 undef = undef := inv.done 24 _ 104 rfl rfl rfl
            have q105 : a'.tmps.getD 105 undef = undef := inv.done 25 _ 105 rfl rfl rfl
            have q106 : a'.tmps.getD 106 undef = undef := inv.done 26 _ 106 rfl rfl rfl
            have q107 : a'.tmps.getD 107 undef = undef := inv.done 27 _ 107 rfl rfl rfl
            have q108 : a'.tmps.getD 108 undef = undef := inv.done 28 _ 108 rfl rfl rfl
            have q109 : a'.tmps.getD 109 undef = undef := inv.done 29 _ 109 rfl rfl rfl
            have q110 : a'.tmps.getD 110 undef = undef := inv.done 30 _ 110 rfl rfl rfl
            have q111 : a'.tmps.getD 111 undef = undef := inv.done 31 _ 111 rfl rfl rfl
            have q112 : a'.tmps.getD 112 undef = Value.bool false := inv.done 32 _ 112 rfl rfl rfl
            have q113 : a'.tmps.getD 113 undef = Value.bool false := inv.done 33 _ 113 rfl rfl rfl
            clear inv
            simp only [List.filterMap_cons, List.filterMap_nil, Par.putAll, Act.put, List.setIfInBounds_toArray, List.set_cons_succ, List.set_cons_zero, q80, q81, q82, q83, q84, q85, q86, q87, q88, q89, q90, q91, q92, q93, q94, q95, q96, q97, q98, q99, q100, q101, q102, q103, q104, q105, q106, q107, q108, q109, q110, q111, q112, q113]
            clear q80 q81 q82 q83 q84 q85 q86 q87 q88 q89 q90 q91 q92 q93 q94 q95 q96 q97 q98 q99 q100 q101 q102 q103 q104 q105 q106 q107 q108 q109 q110 q111 q112 q113
            clear a'
            have HF3 := hid (HE5.out.trans hX)
            clear hX
            have HT6 : Hid (takeC (some z1) (cs.drop (0 + 1)) ⟨last, rows, cs.take (0) ++ [(z1, z2)]⟩ = R) := hid (by have := HT4.out; simpa using this)
            go_wp2
            go_roundw
            case rel => exact ⟨0 + 1, by have := HKM.out; omega, by go_num, hid (by rw [HPN.out, HTK.out]; exact HT6.out), HF3⟩
            case measure =>
              have := HKM.out
              simp [intOf]; omega
          · obtain ⟨j, rfl⟩ : ∃ i, k = i + 1 := ⟨k - 1, by omega⟩
            have hpos : decide ((0 : Int) < (j : Int) + 1) = true := by first | (simp; done) | (simp; omega)
            have hjr : j < cs.length := by omega
            obtain ⟨y, hy1, hy2, hy3⟩ := HPR.out j rfl
            have HY := hid (HE5.out.cell hy3)
            have HYL := hid hy2
            have HLS : Hid (lessR (runes y) (runes z1) = b4) := hid (by have := HB4.out; rw [hy1] at this; exact this)
            clear hy1 hy2 hy3
            cases b4
            case false =>
              refine Par.wp_region_par (l := [_, _, _, _, _, _, _, _, _, _, _, _, _, _, _, _, _, _, _, _, _, _, _, _, _, _, _, _, _, _, _, _, _, _]) rfl Ext (Par.VL [Par.EQ (Value.pointer (some ⟨rb, 0, none⟩)), Par.EQ (vN z1), Par.EQ (Value.bool true), Par.EQ (Value.bool false), Par.EQ (Value.bool false), Par.EQ (Value.pointer (some ⟨rb, 0, none⟩)), Par.EQ (vN z1), Par.EQ (vN F), Par.EQ (Value.pointer (some ⟨rb, 0, none⟩)), Par.EQ (vN z1), Par.EQ (Value.bool false), Par.EQ (Value.bool false), Par.EQ (Value.bool false), Par.EQ (Value.pointer (some ⟨rb, 1, none⟩)), Par.EQ (vU z2), Par.EQ (vU last), Par.EQ (Value.bool false), Par.EQ (Value.bool false), Par.EQ (Value.bool false), Par.EQ (Value.int IntKind.i64 ((j : Int) + 1)), Par.EQ (Value.bool true), Par.EQ (Value.bool true), Par.EQ (Value.slice (some a) cs.length bc), Par.EQ (Value.int IntKind.i64 ((j : Int) + 1)), Par.EQ (Value.int IntKind.i64 (j : Int)), Par.EQ (Value.pointer (some (a.add (j * 2)))), Par.EQ (Value.pointer (some (a.add (j * 2)))), Par.EQ (vN y), Par.EQ (Value.pointer (some ⟨rb, 0, none⟩)), Par.EQ (vN z1), Par.EQ (Value.bool false), Par.EQ (Value.bool true), Par.EQ (Value.bool true), Par.EQ (Value.bool true)]) (by kernel_rfl) Ext.refl (fun _ _ _ h1 h2 => Ext.trans h1 h2) (Ext.draw _) (Par.VL_stab ?_) ?_ ?_
              · simp only [List.forall_mem_cons, List.not_mem_nil, false_implies, implies_true, and_true]
                refine ⟨fun _ _ _ _ h => h, fun _ _ _ _ h => h, fun _ _ _ _ h => h, fun _ _ _ _ h => h, fun _ _ _ _ h => h, fun _ _ _ _ h => h, fun _ _ _ _ h => h, fun _ _ _ _ h => h, fun _ _ _ _ h => h, fun _ _ _ _ h => h, fun _ _ _ _ h => h, fun _ _ _ _ h => h, fun _ _ _ _ h => h, fun _ _ _ _ h => h, fun _ _ _ _ h => h, fun _ _ _ _ h => h, fun _ _ _ _ h => h, fun _ _ _ _ h => h, fun _ _ _ _ h => h, fun _ _ _ _ h => h, fun _ _ _ _ h => h, fun _ _ _ _ h => h, fun _ _ _ _ h => h, fun _ _ _ _ h => h, fun _ _ _ _ h => h, fun _ _ _ _ h => h, fun _ _ _ _ h => h, fun _ _ _ _ h => h, fun _ _ _ _ h => h, fun _ _ _ _ h => h, fun _ _ _ _ h => h, fun _ _ _ _ h => h, fun _ _ _ _ h => h, fun _ _ _ _ h => h⟩
              · refine ⟨⟨fun _ _ => trivial, fun ρ w' hX hG hk => ?_⟩, ?_⟩
                · obtain ⟨k0, -⟩ := hk
                  have e0 : ρ (.tmp 11) = pv rb := k0
                  clear k0
                  refine Par.val_k fun K hK => ?_
                  unfold Par.val
                  (go_simp; exact hK _ _ ⟨Ext.refl _, rfl⟩)
                refine ⟨⟨fun _ _ => trivial, fun ρ w' hX hG hk => ?_⟩, ?_⟩
                · obtain ⟨k0, -⟩ := hk
                  have e0 : ρ (.tmp 80) = Value.pointer (some ⟨rb, 0, none⟩) := k0
                  clear k0
                  refine Par.val_k fun K hK => ?_
                  unfold Par.val
                  (have cc := (lk2 (hX.obj HB.out)).1; go_simp; exact hK _ _ ⟨Ext.refl _, rfl⟩)
                refine ⟨⟨fun _ _ => trivial, fun ρ w' hX hG hk => ?_⟩, ?_⟩
                · obtain ⟨k0, k1, -⟩ := hk
                  have e0 := k0
                  have e1 : ρ (.tmp 81) = vN z1 := k1
                  clear k0 k1
                  refine Par.val_k fun K hK => ?_
                  unfold Par.val
                  refine Par.val_call Tryd.func23 (by kernel_rfl) rfl e0 ?_
                  simp only [List.map_toArray, List.map_cons, List.map_nil, e1]
                  refine (rright3_any z1 _ (by have := HZL.out; omega)).mono ?_
                  rintro e w2 ⟨rfl, hE⟩
                  exact ⟨_, rfl, hK _ _ ⟨hE, (congrArg Value.bool HB1.out)⟩⟩
                refine ⟨⟨fun _ _ => trivial, fun ρ w' hX hG hk => ?_⟩, ?_⟩
                · obtain ⟨k0, -⟩ := hk
                  have e0 : ρ (.tmp 82) = Value.bool true := k0
                  clear k0
                  refine Par.val_k fun K hK => ?_
                  unfold Par.val
                  (go_simp; exact hK _ _ ⟨Ext.refl _, rfl⟩)
                refine ⟨⟨fun _ _ => trivial, fun ρ w' hX hG hk => ?_⟩, ?_⟩
                · obtain ⟨k0, -⟩ := hk
                  have e0 : ρ (.tmp 83) = Value.bool false := k0
                  clear k0
                  refine Par.val_k fun K hK => ?_
                  unfold Par.val
                  (go_simp; exact hK _ _ ⟨Ext.refl _, rfl⟩)
                refine ⟨⟨fun _ _ u hu => .inl hu, fun ρ w' hX hG hk => ?_⟩, ?_⟩
                · obtain ⟨k0, -⟩ := hk
                  have e0 : ρ (.tmp 11) = pv rb := k0
                  clear k0
                  refine Par.val_k fun K hK => ?_
                  unfold Par.val
                  (go_simp; exact hK _ _ ⟨Ext.refl _, rfl⟩)
                refine ⟨⟨fun _ _ u hu => .inl hu, fun ρ w' hX hG hk => ?_⟩, ?_⟩
                · obtain ⟨k0, -⟩ := hk
                  have e0 : ρ (.tmp 85) = Value.pointer (some ⟨rb, 0, none⟩) := k0
                  clear k0
                  refine Par.val_k fun K hK => ?_
                  unfold Par.val
                  (have cc := (lk2 (hX.obj HB.out)).1; go_simp; exact hK _ _ ⟨Ext.refl _, rfl⟩)
                refine ⟨⟨fun _ _ u hu => .inl hu, fun ρ w' hX hG hk => ?_⟩, ?_⟩
                · obtain ⟨k0, k1, -⟩ := hk
                  have e0 := k0
                  have e1 : ρ (.tmp 86) = vN z1 := k1
                  clear k0 k1
                  refine Par.val_k fun K hK => ?_
                  unfold Par.val
                  refine Par.val_call Tryd.func24 (by kernel_rfl) rfl e0 ?_
                  simp only [List.map_toArray, List.map_cons, List.map_nil, e1]
                  refine (rfold3_any z1 _ (by have := HZL.out; omega)).mono ?_
                  rintro e w2 ⟨rfl, hE⟩
                  exact ⟨_, rfl, hK _ _ ⟨hE, (congrArg (fun x => Value.string (str x)) HFF.out)⟩⟩
                refine ⟨⟨fun _ _ u hu => .inl hu, fun ρ w' hX hG hk => ?_⟩, ?_⟩
                · obtain ⟨k0, -⟩ := hk
                  have e0 : ρ (.tmp 11) = pv rb := k0
                  clear k0
                  refine Par.val_k fun K hK => ?_
                  unfold Par.val
                  (go_simp; exact hK _ _ ⟨Ext.refl _, rfl⟩)
                refine ⟨⟨fun _ _ u hu => .inl hu, fun ρ w' hX hG hk => ?_⟩, ?_⟩
                · obtain ⟨k0, -⟩ := hk
                  have e0 : ρ (.tmp 88) = Value.pointer (some ⟨rb, 0, none⟩) := k0
                  clear k0
                  refine Par.val_k fun K hK => ?_
                  unfold Par.val
                  (have cc := (lk2 (hX.obj HB.out)).1; go_simp; exact hK _ _ ⟨Ext.refl _, rfl⟩)
                refine ⟨⟨fun _ _ u hu => .inl hu, fun ρ w' hX hG hk => ?_⟩, ?_⟩
                · obtain ⟨k0, k1, -⟩ := hk
                  have e0 : ρ (.tmp 87) = vN F := k0
                  have e1 : ρ (.tmp 89) = vN z1 := k1
                  clear k0 k1
                  refine Par.val_k fun K hK => ?_
                  unfold Par.val
                  (go_simp; exact hK _ _ ⟨Ext.refl _, rfl⟩)
                refine ⟨⟨fun _ _ => trivial, fun ρ w' hX hG hk => ?_⟩, ?_⟩
                · obtain ⟨k0, k1, k2, -⟩ := hk
                  have e0 : ρ (.tmp 84) = Value.bool false := k0
                  have e1 : ρ (Operand.const (Value.bool true)) = (Value.bool true) := k1
                  have e2 : ρ (.tmp 90) = Value.bool false := k2
                  clear k0 k1 k2
                  refine Par.val_k fun K hK => ?_
                  unfold Par.val
                  (go_simp; exact hK _ _ ⟨Ext.refl _, rfl⟩)
                refine ⟨⟨fun _ _ => trivial, fun ρ w' hX hG hk => ?_⟩, ?_⟩
                · obtain ⟨k0, -⟩ := hk
                  have e0 : ρ (.tmp 91) = Value.bool false := k0
                  clear k0
                  refine Par.val_k fun K hK => ?_
                  unfold Par.val
                  (go_simp; exact hK _ _ ⟨Ext.refl _, rfl⟩)
                refine ⟨⟨fun _ _ u hu => .inl hu, fun ρ w' hX hG hk => ?_⟩, ?_⟩
                · obtain ⟨k0, -⟩ := hk
                  have e0 : ρ (.tmp 11) = pv rb := k0
                  clear k0
                  refine Par.val_k fun K hK => ?_
                  unfold Par.val
                  (go_simp; exact hK _ _ ⟨Ext.refl _, rfl⟩)
                refine ⟨⟨fun _ _ u hu => .inl hu, fun ρ w' hX hG hk => ?_⟩, ?_⟩
                · obtain ⟨k0, -⟩ := hk
                  have e0 : ρ (.tmp 93) = Value.pointer (some ⟨rb, 1, none⟩) := k0
                  clear k0
                  refine Par.val_k fun K hK => ?_
                  unfold Par.val
                  (have cc := (lk2 (hX.obj HB.out)).2.1; go_simp; exact hK _ _ ⟨Ext.refl _, rfl⟩)
                refine ⟨⟨fun _ _ u hu => .inl hu, fun ρ w' hX hG hk => ?_⟩, ?_⟩
                · obtain ⟨k0, -⟩ := hk
                  have e0 : ρ (.tmp 0) = vU last := k0
                  clear k0
                  refine Par.val_k fun K hK => ?_
                  unfold Par.val
                  (go_simp; exact hK _ _ ⟨Ext.refl _, rfl⟩)
                refine ⟨⟨fun _ _ u hu => .inl hu, fun ρ w' hX hG hk => ?_⟩, ?_⟩
                · obtain ⟨k0, k1, -⟩ := hk
                  have e0 : ρ (.tmp 94) = vU z2 := k0
                  have e1 : ρ (.tmp 95) = vU last := k1
                  clear k0 k1
                  refine Par.val_k fun K hK => ?_
                  unfold Par.val
                  (go_simp; exact hK _ _ ⟨Ext.refl _, rfl⟩)
                refine ⟨⟨fun _ _ => trivial, fun ρ w' hX hG hk => ?_⟩, ?_⟩
                · obtain ⟨k0, k1, k2, -⟩ := hk
                  have e0 : ρ (.tmp 92) = Value.bool false := k0
                  have e1 : ρ (Operand.const (Value.bool true)) = (Value.bool true) := k1
                  have e2 : ρ (.tmp 96) = Value.bool false := k2
                  clear k0 k1 k2
                  refine Par.val_k fun K hK => ?_
                  unfold Par.val
                  (go_simp; exact hK _ _ ⟨Ext.refl _, rfl⟩)
                refine ⟨⟨fun _ _ => trivial, fun ρ w' hX hG hk => ?_⟩, ?_⟩
                · obtain ⟨k0, -⟩ := hk
                  have e0 : ρ (.tmp 97) = Value.bool false := k0
                  clear k0
                  refine Par.val_k fun K hK => ?_
                  unfold Par.val
                  (go_simp; exact hK _ _ ⟨Ext.refl _, rfl⟩)
                refine ⟨⟨fun _ _ u hu => .inl hu, fun ρ w' hX hG hk => ?_⟩, ?_⟩
                · obtain ⟨k0, -⟩ := hk
                  have e0 : ρ (.tmp 10) = Value.int IntKind.i64 ((j : Int) + 1) := k0
                  clear k0
                  refine Par.val_k fun K hK => ?_
                  unfold Par.val
                  (go_simp; exact hK _ _ ⟨Ext.refl _, rfl⟩)
                refine ⟨⟨fun _ _ u hu => .inl hu, fun ρ w' hX hG hk => ?_⟩, ?_⟩
                · obtain ⟨k0, k1, -⟩ := hk
                  have e0 : ρ (.tmp 99) = Value.int IntKind.i64 ((j : Int) + 1) := k0
                  have e1 : ρ (Operand.const (Value.int IntKind.i64 0)) = (Value.int IntKind.i64 0) := k1
                  clear k0 k1
                  refine Par.val_k fun K hK => ?_
                  unfold Par.val
                  (go_simp; exact hK _ _ ⟨Ext.refl _, rfl⟩)
                refine ⟨⟨fun _ _ u hu => .inl hu, fun ρ w' hX hG hk => ?_⟩, ?_⟩
                · obtain ⟨k0, -⟩ := hk
                  have e0 : ρ (.tmp 100) = Value.bool true := k0
                  clear k0
                  refine Par.val_k fun K hK => ?_
                  unfold Par.val
                  (go_simp; exact hK _ _ ⟨Ext.refl _, rfl⟩)
                refine ⟨⟨fun _ _ u hu => .inl hu, fun ρ w' hX hG hk => ?_⟩, ?_⟩
                · obtain ⟨k0, -⟩ := hk
                  have e0 : ρ (.tmp 2) = Value.slice (some a) cs.length bc := k0
                  clear k0
                  refine Par.val_k fun K hK => ?_
                  unfold Par.val
                  (go_simp; exact hK _ _ ⟨Ext.refl _, rfl⟩)
                refine ⟨⟨fun _ _ u hu => .inl hu, fun ρ w' hX hG hk => ?_⟩, ?_⟩
                · obtain ⟨k0, -⟩ := hk
                  have e0 : ρ (.tmp 10) = Value.int IntKind.i64 ((j : Int) + 1) := k0
                  clear k0
                  refine Par.val_k fun K hK => ?_
                  unfold Par.val
                  (go_simp; exact hK _ _ ⟨Ext.refl _, rfl⟩)
                refine ⟨⟨fun _ _ u hu => .inl hu, fun ρ w' hX hG hk => ?_⟩, ?_⟩
                · obtain ⟨k0, k1, -⟩ := hk
                  have e0 : ρ (.tmp 103) = Value.int IntKind.i64 ((j : Int) + 1) := k0
                  have e1 : ρ (Operand.const (Value.int IntKind.i64 1)) = (Value.int IntKind.i64 1) := k1
                  clear k0 k1
                  refine Par.val_k fun K hK => ?_
                  unfold Par.val
                  (have hwr : IntKind.i64.wrap (j : Int) = (j : Int) := IntWalk.i64_in _ (by omega); go_simp; exact hK _ _ ⟨Ext.refl _, rfl⟩)
                refine ⟨⟨fun _ _ u hu => .inl hu, fun ρ w' hX hG hk => ?_⟩, ?_⟩
                · obtain ⟨k0, k1, -⟩ := hk
                  have e0 : ρ (.tmp 102) = Value.slice (some a) cs.length bc := k0
                  have e1 : ρ (.tmp 104) = Value.int IntKind.i64 (j : Int) := k1
                  clear k0 k1
                  refine Par.val_k fun K hK => ?_
                  unfold Par.val
                  (go_simp; exact hK _ _ ⟨Ext.refl _, rfl⟩)
                refine ⟨⟨fun _ _ u hu => .inl hu, fun ρ w' hX hG hk => ?_⟩, ?_⟩
                · obtain ⟨k0, -⟩ := hk
                  have e0 : ρ (.tmp 105) = Value.pointer (some (a.add (j * 2))) := k0
                  clear k0
                  refine Par.val_k fun K hK => ?_
                  unfold Par.val
                  (go_simp; exact hK _ _ ⟨Ext.refl _, rfl⟩)
                refine ⟨⟨fun _ _ u hu => .inl hu, fun ρ w' hX hG hk => ?_⟩, ?_⟩
                · obtain ⟨k0, -⟩ := hk
                  have e0 : ρ (.tmp 106) = Value.pointer (some (a.add (j * 2))) := k0
                  clear k0
                  refine Par.val_k fun K hK => ?_
                  unfold Par.val
                  (have cc := hX.cell HY.out; go_simp; exact hK _ _ ⟨Ext.refl _, rfl⟩)
                refine ⟨⟨fun _ _ u hu => .inl hu, fun ρ w' hX hG hk => ?_⟩, ?_⟩
                · obtain ⟨k0, -⟩ := hk
                  have e0 : ρ (.tmp 11) = pv rb := k0
                  clear k0
                  refine Par.val_k fun K hK => ?_
                  unfold Par.val
                  (go_simp; exact hK _ _ ⟨Ext.refl _, rfl⟩)
                refine ⟨⟨fun _ _ u hu => .inl hu, fun ρ w' hX hG hk => ?_⟩, ?_⟩
                · obtain ⟨k0, -⟩ := hk
                  have e0 : ρ (.tmp 108) = Value.pointer (some ⟨rb, 0, none⟩) := k0
                  clear k0
                  refine Par.val_k fun K hK => ?_
                  unfold Par.val
                  (have cc := (lk2 (hX.obj HB.out)).1; go_simp; exact hK _ _ ⟨Ext.refl _, rfl⟩)
                refine ⟨⟨fun _ _ u hu => .inl hu, fun ρ w' hX hG hk => ?_⟩, ?_⟩
                · obtain ⟨k0, k1, k2, -⟩ := hk
                  have e0 := k0
                  have e1 : ρ (.tmp 107) = vN y := k1
                  have e2 : ρ (.tmp 109) = vN z1 := k2
                  clear k0 k1 k2
                  refine Par.val_k fun K hK => ?_
                  unfold Par.val
                  refine Par.val_call Tryd.func29 (by kernel_rfl) rfl e0 ?_
                  simp only [List.map_toArray, List.map_cons, List.map_nil, e1, e2]
                  refine (rless3_any y z1 _ (by have := HYL.out; omega) (by have := HZL.out; omega)).mono ?_
                  rintro e w2 ⟨rfl, hE⟩
                  exact ⟨_, rfl, hK _ _ ⟨hE, (congrArg Value.bool HLS.out)⟩⟩
                refine ⟨⟨fun _ _ u hu => .inl hu, fun ρ w' hX hG hk => ?_⟩, ?_⟩
                · obtain ⟨k0, -⟩ := hk
                  have e0 : ρ (.tmp 110) = Value.bool false := k0
                  clear k0
                  refine Par.val_k fun K hK => ?_
                  unfold Par.val
                  (go_simp; exact hK _ _ ⟨Ext.refl _, rfl⟩)
                refine ⟨⟨fun _ _ u hu => .inl hu, fun ρ w' hX hG hk => ?_⟩, ?_⟩
                · obtain ⟨k0, k1, k2, -⟩ := hk
                  have e0 : ρ (.tmp 101) = Value.bool true := k0
                  have e1 : ρ (.tmp 111) = Value.bool true := k1
                  have e2 : ρ (Operand.const (Value.bool false)) = (Value.bool false) := k2
                  clear k0 k1 k2
                  refine Par.val_k fun K hK => ?_
                  unfold Par.val
                  (go_simp; exact hK _ _ ⟨Ext.refl _, rfl⟩)
                refine ⟨⟨fun _ _ => trivial, fun ρ w' hX hG hk => ?_⟩, ?_⟩
                · obtain ⟨k0, k1, k2, -⟩ := hk
                  have e0 : ρ (.tmp 98) = Value.bool false := k0
                  have e1 : ρ (Operand.const (Value.bool true)) = (Value.bool true) := k1
                  have e2 : ρ (.tmp 112) = Value.bool true := k2
                  clear k0 k1 k2
                  refine Par.val_k fun K hK => ?_
                  unfold Par.val
                  (go_simp; exact hK _ _ ⟨Ext.refl _, rfl⟩)
                trivial
              intro a' w' inv
              have hX := inv.ext
              have q80 : a'.tmps.getD 80 undef = Value.pointer (some ⟨rb, 0, none⟩) := inv.done 0 _ 80 rfl rfl rfl
              have q81 : a'.tmps.getD 81 undef = vN z1 := inv.done 1 _ 81 rfl rfl rfl
              have q82 : a'.tmps.getD 82 undef = Value.bool true := inv.done 2 _ 82 rfl rfl rfl
              have q83 : a'.tmps.getD 83 undef = Value.bool false := inv.done 3 _ 83 rfl rfl rfl
              have q84 : a'.tmps.getD 84 undef = Value.bool false := inv.done 4 _ 84 rfl rfl rfl
              have q85 : a'.tmps.getD 85 undef = Value.pointer (some ⟨rb, 0, none⟩) := inv.done 5 _ 85 rfl rfl rfl
              have q86 : a'.tmps.getD 86 undef = vN z1 := inv.done 6 _ 86 rfl rfl rfl
              have q87 : a'.tmps.getD 87 undef = vN F := inv.done 7 _ 87 rfl rfl rfl
              have q88 : a'.tmps.getD 88 undef = Value.pointer (some ⟨rb, 0, none⟩) := inv.done 8 _ 88 rfl rfl rfl
              have q89 : a'.tmps.getD 89 undef = vN z1 := inv.done 9 _ 89 rfl rfl rfl
              have q90 : a'.tmps.getD 90 undef = Value.bool false := inv.done 10 _ 90 rfl rfl rfl
              have q91 : a'.tmps.getD 91 undef = Value.bool false := inv.done 11 _ 91 rfl rfl rfl
              have q92 : a'.tmps.getD 92 undef = Value.bool false := inv.done 12 _ 92 rfl rfl rfl
              have q93 : a'.tmps.getD 93 undef = Value.pointer (some ⟨rb, 1, none⟩) := inv.done 13 _ 93 rfl rfl rfl
              have q94 : a'.tmps.getD 94 undef = vU z2 := inv.done 14 _ 94 rfl rfl rfl
              have q95 : a'.tmps.getD 95 undef = vU last := inv.done 15 _ 95 rfl rfl rfl
              have q96 : a'.tmps.getD 96 undef = Value.bool false := inv.done 16 _ 96 rfl rfl rfl
              have q97 : a'.tmps.getD 97 undef = Value.bool false := inv.done 17 _ 97 rfl rfl rfl
              have q98 : a'.tmps.getD 98 undef = Value.bool false := inv.done 18 _ 98 rfl rfl rfl
              have q99 : a'.tmps.getD 99 undef = Value.int IntKind.i64 ((j : Int) + 1) := inv.done 19 _ 99 rfl rfl rfl
              have q100 : a'.tmps.getD 100 undef = Value.bool true := inv.done 20 _ 100 rfl rfl rfl
              have q101 : a'.tmps.getD 101 undef = Value.bool true := inv.done 21 _ 101 rfl rfl rfl
              have q102 : a'.tmps.getD 102 undef = Value.slice (some a) cs.length bc := inv.done 22 _ 102 rfl rfl rfl
              have q103 : a'.tmps.getD 103 undef = Value.int IntKind.i64 ((j : Int) + 1) := inv.done 23 _ 103 rfl rfl rfl
              have q104 : a'.tmps.getD 104 undef = Value.int IntKind.i64 (j : Int) := inv.done 24 _ 104 rfl rfl rfl
              have q105 : a'.tmps.getD 105 undef = Value.pointer (some (a.add (j * 2))) := inv.done 25 _ 105 rfl rfl rfl
              have q106 : a'.tmps.getD 106 undef = Value.pointer (some (a.add (j * 2))) := inv.done 26 _ 106 rfl rfl rfl
              have q107 : a'.tmps.getD 107 undef = vN y := inv.done 27 _ 107 rfl rfl rfl
              have q108 : a'.tmps.getD 108 undef = Value.pointer (some ⟨rb, 0, none⟩) := inv.done 28 _ 108 rfl rfl rfl
              have q109 : a'.tmps.getD 109 undef = vN z1 := inv.done 29 _ 109 rfl rfl rfl
              have q110 : a'.tmps.getD 110 undef = Value.bool false := inv.done 30 _ 110 rfl rfl rfl
              have q111 : a'.tmps.getD 111 undef = Value.bool true := inv.done 31 _ 111 rfl rfl rfl
              have q112 : a'.tmps.getD 112 undef = Value.bool true := inv.done 32 _ 112 rfl rfl rfl
              have q113 : a'.tmps.getD 113 undef = Value.bool true := inv.done 33 _ 113 rfl rfl rfl
              clear inv
              simp only [List.filterMap_cons, List.filterMap_nil, Par.putAll, Act.put, List.setIfInBounds_toArray, List.set_cons_succ, List.set_cons_zero, q80, q81, q82, q83, q84, q85, q86, q87, q88, q89, q90, q91, q92, q93, q94, q95, q96, q97, q98, q99, q100, q101, q102, q103, q104, q105, q106, q107, q108, q109, q110, q111, q112, q113]
              clear q80 q81 q82 q83 q84 q85 q86 q87 q88 q89 q90 q91 q92 q93 q94 q95 q96 q97 q98 q99 q100 q101 q102 q103 q104 q105 q106 q107 q108 q109 q110 q111 q112 q113
              clear a'
              have HF3 := hid (HE5.out.trans hX)
              clear hX
              go_wp2
              go_returns
              have hnn := HT4.out
              rw [if_pos (by simp)] at hnn
              rw [← hnn]
              exact RFroP.none HF3.out
            refine Par.wp_region_par (l := [_, _, _, _, _, _, _, _, _, _, _, _, _, _, _, _, _, _, _, _, _, _, _, _, _, _, _, _, _, _, _, _, _, _]) rfl Ext (Par.VL [Par.EQ (Value.pointer (some ⟨rb, 0, none⟩)), Par.EQ (vN z1), Par.EQ (Value.bool true), Par.EQ (Value.bool false), Par.EQ (Value.bool false), Par.EQ (Value.pointer (some ⟨rb, 0, none⟩)), Par.EQ (vN z1), Par.EQ (vN F), Par.EQ (Value.pointer (some ⟨rb, 0, none⟩)), Par.EQ (vN z1), Par.EQ (Value.bool false), Par.EQ (Value.bool false), Par.EQ (Value.bool false), Par.EQ (Value.pointer (some ⟨rb, 1, none⟩)), Par.EQ (vU z2), Par.EQ (vU last), Par.EQ (Value.bool false), Par.EQ (Value.bool false), Par.EQ (Value.bool false), Par.EQ (Value.int IntKind.i64 ((j : Int) + 1)), Par.EQ (Value.bool true), Par.EQ (Value.bool true), Par.EQ (Value.slice (some a) cs.length bc), Par.EQ (Value.int IntKind.i64 ((j : Int) + 1)), Par.EQ (Value.int IntKind.i64 (j : Int)), Par.EQ (Value.pointer (some (a.add (j * 2)))), Par.EQ (Value.pointer (some (a.add (j * 2)))), Par.EQ (vN y), Par.EQ (Value.pointer (some ⟨rb, 0, none⟩)), Par.EQ (vN z1), Par.EQ (Value.bool true), Par.EQ (Value.bool false), Par.EQ (Value.bool false), Par.EQ (Value.bool false)]) (by kernel_rfl) Ext.refl (fun _ _ _ h1 h2 => Ext.trans h1 h2) (Ext.draw _) (Par.VL_stab ?_) ?_ ?_
            · simp only [List.forall_mem_cons, List.not_mem_nil, false_implies, implies_true, and_true]
              refine ⟨fun _ _ _ _ h => h, fun _ _ _ _ h => h, fun _ _ _ _ h => h, fun _ _ _ _ h => h, fun _ _ _ _ h => h, fun _ _ _ _ h => h, fun _ _ _ _ h => h, fun _ _ _ _ h => h, fun _ _ _ _ h => h, fun _ _ _ _ h => h, fun _ _ _ _ h => h, fun _ _ _ _ h => h, fun _ _ _ _ h => h, fun _ _ _ _ h => h, fun _ _ _ _ h => h, fun _ _ _ _ h => h, fun _ _ _ _ h => h, fun _ _ _ _ h => h, fun _ _ _ _ h => h, fun _ _ _ _ h => h, fun _ _ _ _ h => h, fun _ _ _ _ h => h, fun _ _ _ _ h => h, fun _ _ _ _ h => h, fun _ _ _ _ h => h, fun _ _ _ _ h => h, fun _ _ _ _ h => h, fun _ _ _ _ h => h, fun _ _ _ _ h => h, fun _ _ _ _ h => h, fun _ _ _ _ h => h, fun _ _ _ _ h => h, fun _ _ _ _ h => h, fun _ _ _ _ h => h⟩
            · refine ⟨⟨fun _ _ => trivial, fun ρ w' hX hG hk => ?_⟩, ?_⟩
              · obtain ⟨k0, -⟩ := hk
                have e0 : ρ (.tmp 11) = pv rb := k0
                clear k0
                refine Par.val_k fun K hK => ?_
                unfold Par.val
                (go_simp; exact hK _ _ ⟨Ext.refl _, rfl⟩)
              refine ⟨⟨fun _ _ => trivial, fun ρ w' hX hG hk => ?_⟩, ?_⟩
              · obtain ⟨k0, -⟩ := hk
                have e0 : ρ (.tmp 80) = Value.pointer (some ⟨rb, 0, none⟩) := k0
                clear k0
                refine Par.val_k fun K hK => ?_
                unfold Par.val
                (have cc := (lk2 (hX.obj HB.out)).1; go_simp; exact hK _ _ ⟨Ext.refl _, rfl⟩)
              refine ⟨⟨fun _ _ => trivial, fun ρ w' hX hG hk => ?_⟩, ?_⟩
              · obtain ⟨k0, k1, -⟩ := hk
                have e0 := k0
                have e1 : ρ (.tmp 81) = vN z1 := k1
                clear k0 k1
                refine Par.val_k fun K hK => ?_
                unfold Par.val
                refine Par.val_call Tryd.func23 (by kernel_rfl) rfl e0 ?_
                simp only [List.map_toArray, List.map_cons, List.map_nil, e1]
                refine (rright3_any z1 _ (by have := HZL.out; omega)).mono ?_
                rintro e w2 ⟨rfl, hE⟩
                exact ⟨_, rfl, hK _ _ ⟨hE, (congrArg Value.bool HB1.out)⟩⟩
              refine ⟨⟨fun _ _ => trivial, fun ρ w' hX hG hk => ?_⟩, ?_⟩
              · obtain ⟨k0, -⟩ := hk
                have e0 : ρ (.tmp 82) = Value.bool true := k0
                clear k0
                refine Par.val_k fun K hK => ?_
                unfold Par.val
                (go_simp; exact hK _ _ ⟨Ext.refl _, rfl⟩)
              refine ⟨⟨fun _ _ => trivial, fun ρ w' hX hG hk => ?_⟩, ?_⟩
              · obtain ⟨k0, -⟩ := hk
                have e0 : ρ (.tmp 83) = Value.bool false := k0
                clear k0
                refine Par.val_k fun K hK => ?_
                unfold Par.val
                (go_simp; exact hK _ _ ⟨Ext.refl _, rfl⟩)
              refine ⟨⟨fun _ _ u hu => .inl hu, fun ρ w' hX hG hk => ?_⟩, ?_⟩
              · obtain ⟨k0, -⟩ := hk
                have e0 : ρ (.tmp 11) = pv rb := k0
                clear k0
                refine Par.val_k fun K hK => ?_
                unfold Par.val
                (go_simp; exact hK _ _ ⟨Ext.refl _, rfl⟩)
              refine ⟨⟨fun _ _ u hu => .inl hu, fun ρ w' hX hG hk => ?_⟩, ?_⟩
              · obtain ⟨k0, -⟩ := hk
                have e0 : ρ (.tmp 85) = Value.pointer (some ⟨rb, 0, none⟩) := k0
                clear k0
                refine Par.val_k fun K hK => ?_
                unfold Par.val
                (have cc := (lk2 (hX.obj HB.out)).1; go_simp; exact hK _ _ ⟨Ext.refl _, rfl⟩)
              refine ⟨⟨fun _ _ u hu => .inl hu, fun ρ w' hX hG hk => ?_⟩, ?_⟩
              · obtain ⟨k0, k1, -⟩ := hk
                have e0 := k0
                have e1 : ρ (.tmp 86) = vN z1 := k1
                clear k0 k1
                refine Par.val_k fun K hK => ?_
                unfold Par.val
                refine Par.val_call Tryd.func24 (by kernel_rfl) rfl e0 ?_
                simp only [List.map_toArray, List.map_cons, List.map_nil, e1]
                refine (rfold3_any z1 _ (by have := HZL.out; omega)).mono ?_
                rintro e w2 ⟨rfl, hE⟩
                exact ⟨_, rfl, hK _ _ ⟨hE, (congrArg (fun x => Value.string (str x)) HFF.out)⟩⟩
              refine ⟨⟨fun _ _ u hu => .inl hu, fun ρ w' hX hG hk => ?_⟩, ?_⟩
              · obtain ⟨k0, -⟩ := hk
                have e0 : ρ (.tmp 11) = pv rb := k0
                clear k0
                refine Par.val_k fun K hK => ?_
                unfold Par.val
                (go_simp; exact hK _ _ ⟨Ext.refl _, rfl⟩)
              refine ⟨⟨fun _ _ u hu => .inl hu, fun ρ w' hX hG hk => ?_⟩, ?_⟩
              · obtain ⟨k0, -⟩ := hk
                have e0 : ρ (.tmp 88) = Value.pointer (some ⟨rb, 0, none⟩) := k0
                clear k0
                refine Par.val_k fun K hK => ?_
                unfold Par.val
                (have cc := (lk2 (hX.obj HB.out)).1; go_simp; exact hK _ _ ⟨Ext.refl _, rfl⟩)
              refine ⟨⟨fun _ _ u hu => .inl hu, fun ρ w' hX hG hk => ?_⟩, ?_⟩
              · obtain ⟨k0, k1, -⟩ := hk
                have e0 : ρ (.tmp 87) = vN F := k0
                have e1 : ρ (.tmp 89) = vN z1 := k1
                clear k0 k1
                refine Par.val_k fun K hK => ?_
                unfold Par.val
                (go_simp; exact hK _ _ ⟨Ext.refl _, rfl⟩)
              refine ⟨⟨fun _ _ => trivial, fun ρ w' hX hG hk => ?_⟩, ?_⟩
              · obtain ⟨k0, k1, k2, -⟩ := hk
                have e0 : ρ (.tmp 84) = Value.bool false := k0
                have e1 : ρ (Operand.const (Value.bool true)) = (Value.bool true) := k1
                have e2 : ρ (.tmp 90) = Value.bool false := k2
                clear k0 k1 k2
                refine Par.val_k fun K hK => ?_
                unfold Par.val
                (go_simp; exact hK _ _ ⟨Ext.refl _, rfl⟩)
              refine ⟨⟨fun _ _ => trivial, fun ρ w' hX hG hk => ?_⟩, ?_⟩
              · obtain ⟨k0, -⟩ := hk
                have e0 : ρ (.tmp 91) = Value.bool false := k0
                clear k0
                refine Par.val_k fun K hK => ?_
                unfold Par.val
                (go_simp; exact hK _ _ ⟨Ext.refl _, rfl⟩)
              refine ⟨⟨fun _ _ u hu => .inl hu, fun ρ w' hX hG hk => ?_⟩, ?_⟩
              · obtain ⟨k0, -⟩ := hk
                have e0 : ρ (.tmp 11) = pv rb := k0
                clear k0
                refine Par.val_k fun K hK => ?_
                unfold Par.val
                (go_simp; exact hK _ _ ⟨Ext.refl _, rfl⟩)
              refine ⟨⟨fun _ _ u hu => .inl hu, fun ρ w' hX hG hk => ?_⟩, ?_⟩
              · obtain ⟨k0, -⟩ := hk
                have e0 : ρ (.tmp 93) = Value.pointer (some ⟨rb, 1, none⟩) := k0
                clear k0
                refine Par.val_k fun K hK => ?_
                unfold Par.val
                (have cc := (lk2 (hX.obj HB.out)).2.1; go_simp; exact hK _ _ ⟨Ext.refl _, rfl⟩)
              refine ⟨⟨fun _ _ u hu => .inl hu, fun ρ w' hX hG hk => ?_⟩, ?_⟩
              · obtain ⟨k0, -⟩ := hk
                have e0 : ρ (.tmp 0) = vU last := k0
                clear k0
                refine Par.val_k fun K hK => ?_
                unfold Par.val
                (go_simp; exact hK _ _ ⟨Ext.refl _, rfl⟩)
              refine ⟨⟨fun _ _ u hu => .inl hu, fun ρ w' hX hG hk => ?_⟩, ?_⟩
              · obtain ⟨k0, k1, -⟩ := hk
                have e0 : ρ (.tmp 94) = vU z2 := k0
                have e1 : ρ (.tmp 95) = vU last := k1
                clear k0 k1
                refine Par.val_k fun K hK => ?_
                unfold Par.val
                (go_simp; exact hK _ _ ⟨Ext.refl _, rfl⟩)
              refine ⟨⟨fun _ _ => trivial, fun ρ w' hX hG hk => ?_⟩, ?_⟩
              · obtain ⟨k0, k1, k2, -⟩ := hk
                have e0 : ρ (.tmp 92) = Value.bool false := k0
                have e1 : ρ (Operand.const (Value.bool true)) = (Value.bool true) := k1
                have e2 : ρ (.tmp 96) = Value.bool false := k2
                clear k0 k1 k2
                refine Par.val_k fun K hK => ?_
                unfold Par.val
                (go_simp; exact hK _ _ ⟨Ext.refl _, rfl⟩)
              refine ⟨⟨fun _ _ => trivial, fun ρ w' hX hG hk => ?_⟩, ?_⟩
              · obtain ⟨k0, -⟩ := hk
                have e0 : ρ (.tmp 97) = Value.bool false := k0
                clear k0
                refine Par.val_k fun K hK => ?_
                unfold Par.val
                (go_simp; exact hK _ _ ⟨Ext.refl _, rfl⟩)
              refine ⟨⟨fun _ _ u hu => .inl hu, fun ρ w' hX hG hk => ?_⟩, ?_⟩
              · obtain ⟨k0, -⟩ := hk
                have e0 : ρ (.tmp 10) = Value.int IntKind.i64 ((j : Int) + 1) := k0
                clear k0
                refine Par.val_k fun K hK => ?_
                unfold Par.val
                (go_simp; exact hK _ _ ⟨Ext.refl _, rfl⟩)
              refine ⟨⟨fun _ _ u hu => .inl hu, fun ρ w' hX hG hk => ?_⟩, ?_⟩
              · obtain ⟨k0, k1, -⟩ := hk
                have e0 : ρ (.tmp 99) = Value.int IntKind.i64 ((j : Int) + 1) := k0
                have e1 : ρ (Operand.const (Value.int IntKind.i64 0)) = (Value.int IntKind.i64 0) := k1
                clear k0 k1
                refine Par.val_k fun K hK => ?_
                unfold Par.val
                (go_simp; exact hK _ _ ⟨Ext.refl _, rfl⟩)
              refine ⟨⟨fun _ _ u hu => .inl hu, fun ρ w' hX hG hk => ?_⟩, ?_⟩
              · obtain ⟨k0, -⟩ := hk
                have e0 : ρ (.tmp 100) = Value.bool true := k0
                clear k0
                refine Par.val_k fun K hK => ?_
                unfold Par.val
                (go_simp; exact hK _ _ ⟨Ext.refl _, rfl⟩)
              refine ⟨⟨fun _ _ u hu => .inl hu, fun ρ w' hX hG hk => ?_⟩, ?_⟩
              · obtain ⟨k0, -⟩ := hk
                have e0 : ρ (.tmp 2) = Value.slice (some a) cs.length bc := k0
                clear k0
                refine Par.val_k fun K hK => ?_
                unfold Par.val
                (go_simp; exact hK _ _ ⟨Ext.refl _, rfl⟩)
              refine ⟨⟨fun _ _ u hu => .inl hu, fun ρ w' hX hG hk => ?_⟩, ?_⟩
              · obtain ⟨k0, -⟩ := hk
                have e0 : ρ (.tmp 10) = Value.int IntKind.i64 ((j : Int) + 1) := k0
                clear k0
                refine Par.val_k fun K hK => ?_
                unfold Par.val
                (go_simp; exact hK _ _ ⟨Ext.refl _, rfl⟩)
              refine ⟨⟨fun _ _ u hu => .inl hu, fun ρ w' hX hG hk => ?_⟩, ?_⟩
              · obtain ⟨k0, k1, -⟩ := hk
                have e0 : ρ (.tmp 103) = Value.int IntKind.i64 ((j : Int) + 1) := k0
                have e1 : ρ (Operand.const (Value.int IntKind.i64 1)) = (Value.int IntKind.i64 1) := k1
                clear k0 k1
                refine Par.val_k fun K hK => ?_
                unfold Par.val
                (have hwr : IntKind.i64.wrap (j : Int) = (j : Int) := IntWalk.i64_in _ (by omega); go_simp; exact hK _ _ ⟨Ext.refl _, rfl⟩)
              refine ⟨⟨fun _ _ u hu => .inl hu, fun ρ w' hX hG hk => ?_⟩, ?_⟩
              · obtain ⟨k0, k1, -⟩ := hk
                have e0 : ρ (.tmp 102) = Value.slice (some a) cs.length bc := k0
                have e1 : ρ (.tmp 104) = Value.int IntKind.i64 (j : Int) := k1
                clear k0 k1
                refine Par.val_k fun K hK => ?_
                unfold Par.val
                (go_simp; exact hK _ _ ⟨Ext.refl _, rfl⟩)
              refine ⟨⟨fun _ _ u hu => .inl hu, fun ρ w' hX hG hk => ?_⟩, ?_⟩
              · obtain ⟨k0, -⟩ := hk
                have e0 : ρ (.tmp 105) = Value.pointer (some (a.add (j * 2))) := k0
                clear k0
                refine Par.val_k fun K hK => ?_
                unfold Par.val
                (go_simp; exact hK _ _ ⟨Ext.refl _, rfl⟩)
              refine ⟨⟨fun _ _ u hu => .inl hu, fun ρ w' hX hG hk => ?_⟩, ?_⟩
              · obtain ⟨k0, -⟩ := hk
                have e0 : ρ (.tmp 106) = Value.pointer (some (a.add (j * 2))) := k0
                clear k0
                refine Par.val_k fun K hK => ?_
                unfold Par.val
                (have cc := hX.cell HY.out; go_simp; exact hK _ _ ⟨Ext.refl _, rfl⟩)
              refine ⟨⟨fun _ _ u hu => .inl hu, fun ρ w' hX hG hk => ?_⟩, ?_⟩
              · obtain ⟨k0, -⟩ := hk
                have e0 : ρ (.tmp 11) = pv rb := k0
                clear k0
                refine Par.val_k fun K hK => ?_
                unfold Par.val
                (go_simp; exact hK _ _ ⟨Ext.refl _, rfl⟩)
              refine ⟨⟨fun _ _ u hu => .inl hu, fun ρ w' hX hG hk => ?_⟩, ?_⟩
              · obtain ⟨k0, -⟩ := hk
                have e0 : ρ (.tmp 108) = Value.pointer (some ⟨rb, 0, none⟩) := k0
                clear k0
                refine Par.val_k fun K hK => ?_
                unfold Par.val
                (have cc := (lk2 (hX.obj HB.out)).1; go_simp; exact hK _ _ ⟨Ext.refl _, rfl⟩)
              refine ⟨⟨fun _ _ u hu => .inl hu, fun ρ w' hX hG hk => ?_⟩, ?_⟩
              · obtain ⟨k0, k1, k2, -⟩ := hk
                have e0 := k0
                have e1 : ρ (.tmp 107) = vN y := k1
                have e2 : ρ (.tmp 109) = vN z1 := k2
                clear k0 k1 k2
                refine Par.val_k fun K hK => ?_
                unfold Par.val
                refine Par.val_call Tryd.func29 (by kernel_rfl) rfl e0 ?_
                simp only [List.map_toArray, List.map_cons, List.map_nil, e1, e2]
                refine (rless3_any y z1 _ (by have := HYL.out; omega) (by have := HZL.out; omega)).mono ?_
                rintro e w2 ⟨rfl, hE⟩
                exact ⟨_, rfl, hK _ _ ⟨hE, (congrArg Value.bool HLS.out)⟩⟩
              refine ⟨⟨fun _ _ u hu => .inl hu, fun ρ w' hX hG hk => ?_⟩, ?_⟩
              · obtain ⟨k0, -⟩ := hk
                have e0 : ρ (.tmp 110) = Value.bool true := k0
                clear k0
                refine Par.val_k fun K hK => ?_
                unfold Par.val
                (go_simp; exact hK _ _ ⟨Ext.refl _, rfl⟩)
              refine ⟨⟨fun _ _ u hu => .inl hu, fun ρ w' hX hG hk => ?_⟩, ?_⟩
              · obtain ⟨k0, k1, k2, -⟩ := hk
                have e0 : ρ (.tmp 101) = Value.bool true := k0
                have e1 : ρ (.tmp 111) = Value.bool false := k1
                have e2 : ρ (Operand.const (Value.bool false)) = (Value.bool false) := k2
                clear k0 k1 k2
                refine Par.val_k fun K hK => ?_
                unfold Par.val
                (go_simp; exact hK _ _ ⟨Ext.refl _, rfl⟩)
              refine ⟨⟨fun _ _ => trivial, fun ρ w' hX hG hk => ?_⟩, ?_⟩
              · obtain ⟨k0, k1, k2, -⟩ := hk
                have e0 : ρ (.tmp 98) = Value.bool false := k0
                have e1 : ρ (Operand.const (Value.bool true)) = (Value.bool true) := k1
                have e2 : ρ (.tmp 112) = Value.bool false := k2
                clear k0 k1 k2
                refine Par.val_k fun K hK => ?_
                unfold Par.val
                (go_simp; exact hK _ _ ⟨Ext.refl _, rfl⟩)
              trivial
            intro a' w' inv
            have hX := inv.ext
            have q80 : a'.tmps.getD 80 undef = Value.pointer (some ⟨rb, 0, none⟩) := inv.done 0 _ 80 rfl rfl rfl
            have q81 : a'.tmps.getD 81 undef = vN z1 := inv.done 1 _ 81 rfl rfl rfl
            have q82 : a'.tmps.getD 82 undef = Value.bool true := inv.done 2 _ 82 rfl rfl rfl
            have q83 : a'.tmps.getD 83 undef = Value.bool false := inv.done 3 _ 83 rfl rfl rfl
            have q84 : a'.tmps.getD 84 undef = Value.bool false := inv.done 4 _ 84 rfl rfl rfl
            have q85 : a'.tmps.getD 85 undef = Value.pointer (some ⟨rb, 0, none⟩) := inv.done 5 _ 85 rfl rfl rfl
            have q86 : a'.tmps.getD 86 undef = vN z1 := inv.done 6 _ 86 rfl rfl rfl
            have q87 : a'.tmps.getD 87 undef = vN F := inv.done 7 _ 87 rfl rfl rfl
            have q88 : a'.tmps.getD 88 undef = Value.pointer (some ⟨rb, 0, none⟩) := inv.done 8 _ 88 rfl rfl rfl
            have q89 : a'.tmps.getD 89 undef = vN z1 := inv.done 9 _ 89 rfl rfl rfl
            have q90 : a'.tmps.getD 90 undef = Value.bool false := inv.done 10 _ 90 rfl rfl rfl
            have q91 : a'.tmps.getD 91 undef = Value.bool false := inv.done 11 _ 91 rfl rfl rfl
            have q92 : a'.tmps.getD 92 undef = Value.bool false := inv.done 12 _ 92 rfl rfl rfl
            have q93 : a'.tmps.getD 93 undef = Value.pointer (some ⟨rb, 1, none⟩) := inv.done 13 _ 93 rfl rfl rfl
            have q94 : a'.tmps.getD 94 undef = vU z2 := inv.done 14 _ 94 rfl rfl rfl
            have q95 : a'.tmps.getD 95 undef = vU last := inv.done 15 _ 95 rfl rfl rfl
            have q96 : a'.tmps.getD 96 undef = Value.bool false := inv.done 16 _ 96 rfl rfl rfl
            have q97 : a'.tmps.getD 97 undef = Value.bool false := inv.done 17 _ 97 rfl rfl rfl
            have q98 : a'.tmps.getD 98 undef = Value.bool false := inv.done 18 _ 98 rfl rfl rfl
            have q99 : a'.tmps.getD 99 undef = Value.int IntKind.i64 ((j : Int) + 1) := inv.done 19 _ 99 rfl rfl rfl
            have q100 : a'.tmps.getD 100 undef = Value.bool true := inv.done 20 _ 100 rfl rfl rfl
            have q101 : a'.tmps.getD 101 undef = Value.bool true := inv.done 21 _ 101 rfl rfl rfl
            have q102 : a'.tmps.getD 102 undef = Value.slice (some a) cs.length bc := inv.done 22 _ 102 rfl rfl rfl
            have q103 : a'.tmps.getD 103 undef = Value.int IntKind.i64 ((j : Int) + 1) := inv.done 23 _ 103 rfl rfl rfl
            have q104 : a'.tmps.getD 104 undef = Value.int IntKind.i64 (j : Int) := inv.done 24 _ 104 rfl rfl rfl
            have q105 : a'.tmps.getD 105 undef = Value.pointer (some (a.add (j * 2))) := inv.done 25 _ 105 rfl rfl rfl
            have q106 : a'.tmps.getD 106 undef = Value.pointer (some (a.add (j * 2))) := inv.done 26 _ 106 rfl rfl rfl
            have q107 : a'.tmps.getD 107 undef = vN y := inv.done 27 _ 107 rfl rfl rfl
            have q108 : a'.tmps.getD 108 undef = Value.pointer (some ⟨rb, 0, none⟩) := inv.done 28 _ 108 rfl rfl rfl
            have q109 : a'.tmps.getD 109 undef = vN z1 := inv.done 29 _ 109 rfl rfl rfl
            have q110 : a'.tmps.getD 110 undef = Value.bool true := inv.done 30 _ 110 rfl rfl rfl
            have q111 : a'.tmps.getD 111 undef = Value.bool false := inv.done 31 _ 111 rfl rfl rfl
            have q112 : a'.tmps.getD 112 undef = Value.bool false := inv.done 32 _ 112 rfl rfl rfl
            have q113 : a'.tmps.getD 113 undef = Value.bool false := inv.done 33 _ 113 rfl rfl rfl
            clear inv
            simp only [List.filterMap_cons, List.filterMap_nil, Par.putAll, Act.put, List.setIfInBounds_toArray, List.set_cons_succ, List.set_cons_zero, q80, q81, q82, q83, q84, q85, q86, q87, q88, q89, q90, q91, q92, q93, q94, q95, q96, q97, q98, q99, q100, q101, q102, q103, q104, q105, q106, q107, q108, q109, q110, q111, q112, q113]
            clear q80 q81 q82 q83 q84 q85 q86 q87 q88 q89 q90 q91 q92 q93 q94 q95 q96 q97 q98 q99 q100 q101 q102 q103 q104 q105 q106 q107 q108 q109 q110 q111 q112 q113
            clear a'
            have HF3 := hid (HE5.out.trans hX)
            clear hX
            have HT6 : Hid (takeC (some z1) (cs.drop (j + 1 + 1)) ⟨last, rows, cs.take (j + 1) ++ [(z1, z2)]⟩ = R) := hid (by have := HT4.out; simpa using this)
            go_wp2
            go_roundw
            case rel => exact ⟨j + 1 + 1, by have := HKM.out; omega, by go_num, hid (by rw [HPN.out, HTK.out]; exact HT6.out), HF3⟩
            case measure =>
              have := HKM.out
              simp [intOf]; omega
        · have hkf : decide ((k : Int) < (cs.length : Int)) = false := by simp; omega
          obtain rfl : k = cs.length := by omega
          have HRS : Hid (R = some ⟨last, rows, cs⟩) := hid (by have := HT.out; rw [List.drop_length, takeC, List.take_length] at this; exact this.symm)
          have HA0 := hid (owns_mono (World.ownsRow_lit (base := wr.heap.size) (e := 49) (size := 2) wr #[] 0 (Nat.le_refl _) (by simp [maxLen]) (by simp)) HE.out.size)
          have HSA := hid (HR.out.ext (HE.out.trans (Ext.alloc wr (.cells #[] 49 (0, 0)))))
          have hl9 := HLR.out
          have h89 := H8.out
          clear HT
          go_wp2_with (at_builtin; refine heldM ?_)
          refine Or.inl ?_
          refine wpList_append_slN rfl (.tmp 114) (.tmp 115) 28 rfl w.heap.size 49 Tryd.underlying28 infoRR rfl (by decide) rfl HA0.out rfl HSA.out (encR_one _) rows.length (by simp) (by simp [maxLen]; omega) (by omega) (Nat.le_trans HE.out.size (by simp)) ?_
          intro ao3 cap3 w3 hO3 hg3 hb3
          have HO3 : Hid (w3.ownsRow w.heap.size 49 2 (.slice ao3 rows.length cap3) rows.length (rows.flatMap encR)) := hid (by simpa using hO3)
          have HE3 : Hid (Ext w w3) := hid (Below.trans (HE.out.trans (Ext.alloc _ _)) hb3)
          have HA1 := hid (owns_mono (World.ownsRow_lit (base := w3.heap.size) (e := 52) (size := 2) w3 #[] 0 (Nat.le_refl _) (by simp [maxLen]) (by simp)) (HE3.out.size))
          have HSB := hid (HC.out.ext (HE3.out.trans (Ext.alloc w3 (.cells #[] 52 (0, 0)))))
          have HO4 := hid ((Ext.alloc w3 (.cells #[] 52 (0, 0))).owns HO3.out)
          clear hO3 hg3 hb3
          go_wp2_with (at_builtin; refine wpList_append_slN rfl (.tmp 118) (.tmp 119) 30 rfl w.heap.size 52 Tryd.underlying30 infoRC rfl (by decide) rfl HA1.out rfl HSB.out (curF_one _) cs.length (by simp) (by simp [maxLen]; omega) (by omega) (Nat.le_trans HE3.out.size (by simp)) ?_; intro ao5 cap5 w5 hO5 hg5 hb5; have HO5 : Hid (w5.ownsRow w.heap.size 52 2 (.slice ao5 cs.length cap5) cs.length (cs.flatMap encC)) := hid (by simpa using hO5); have HE6 : Hid (Ext w w5) := hid (Below.trans (HE3.out.trans (Ext.alloc _ _)) hb5); have HO6 : Hid (w5.ownsRow w.heap.size 49 2 (.slice ao3 rows.length cap3) rows.length (rows.flatMap encR)) := hid (ownsRow_fr HO4.out hg5 (fun b h1 h2 => by obtain ⟨c1, e1⟩ := row_kind HO4.out b h1; obtain ⟨c2, e2⟩ := row_kind HA1.out b h2; rw [e1] at e2; cases e2)); clear hO5 hg5 hb5)
          go_wp2
          go_returns
          rw [HRS.out]
          exact ⟨⟨w5.heap.size, .slice ao3 rows.length cap3, .slice ao5 cs.length cap5, rfl, heap_alloc_new _ _, (Ext.alloc w5 _).owns HO6.out, (Ext.alloc w5 _).owns HO5.out, HE6.out.size⟩, HE6.out.trans (Ext.alloc _ _)⟩
end Go.Proofs.YtfpljeblehieiaaDoor
