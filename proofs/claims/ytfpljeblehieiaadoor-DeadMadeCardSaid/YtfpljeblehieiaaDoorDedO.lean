/- The dead: From; what it makes is right. -/
import Derived.Test.YtfpljeblehieiaaDoorDedN
set_option linter.unusedSimpArgs false
set_option linter.unusedVariables false
namespace Go.Proofs.YtfpljeblehieiaaDoor
open Go Go.RowKit Go.Tum Go.ChangeMaps Go.Sort Go.Tum.Rn
open Go.ParB (upd Lof)
open Go.ParE (putS slotsR slots Closed)

/-- A list of what it tells, or none. -/
def fromD (last : UInt64) (rows : List (UInt64 × UInt64)) (cs : List Cur) : Option PD := match takeR 0 rows ⟨last, [], []⟩ with
  | none => none
  | some s => takeCs cs s
theorem takeR_mono : ∀ (l : List (UInt64 × UInt64)) (a : UInt64) (s s' : PD), takeR a l s = some s' → s'.last = s.last ∧ s'.seen = s.seen ∧ s'.rows = s.rows ++ l ∧ (∀ z ∈ l, a < z.2 ∧ z.2 ≤ s.last) ∧ l.Pairwise fun x y => x.2 < y.2
  | [], a, s, s', h => by
    rw [takeR] at h; cases h; simp
  | z :: r, a, s, s', h => by
    rw [takeR] at h
    split at h
    · cases h
    · rename_i hc
      simp only [Bool.or_eq_true, decide_eq_true_eq, not_or] at hc
      obtain ⟨h1, h2, h3, h4, h5⟩ := takeR_mono r z.2 _ s' h
      dsimp only at h1 h2 h3 h4
      have ha : a < z.2 := by have := hc.1; rw [UInt64.le_iff_toNat_le] at this; rw [UInt64.lt_iff_toNat_lt]; omega
      have hb : z.2 ≤ s.last := by have := hc.2.1; rw [UInt64.lt_iff_toNat_lt] at this; rw [UInt64.le_iff_toNat_le]; omega
      refine ⟨h1, h2, by rw [h3]; simp, fun y hy => ?_, ?_⟩
      · rcases List.mem_cons.1 hy with e | e
        · rw [e]; exact ⟨ha, hb⟩
        · have := h4 y e
          exact ⟨by rw [UInt64.lt_iff_toNat_lt] at *; omega, this.2⟩
      · rw [List.pairwise_cons]; exact ⟨fun y hy => (h4 y hy).1, h5⟩
theorem takeC_mono : ∀ (l : List Cur) (o : Option Nm) (s s' : PD), takeC o l s = some s' → s'.last = s.last ∧ s'.rows = s.rows ∧ s'.seen = s.seen ++ l ∧ (∀ z ∈ l, rightL z.1 = true ∧ foldL z.1 = z.1 ∧ z.2 ≤ s.last) ∧ (∀ z ∈ l, lessO o z.1 = true) ∧ l.Pairwise fun x y => ltC x y = true
  | [], o, s, s', h => by
    rw [takeC] at h; cases h; simp
  | z :: r, o, s, s', h => by
    rw [takeC] at h
    split at h
    · cases h
    · rename_i hc
      simp only [Bool.or_eq_true, decide_eq_true_eq, not_or, Bool.not_eq_true', Bool.not_eq_false, decide_eq_false_iff_not, Decidable.not_not] at hc
      obtain ⟨h1, h2, h3, h4, h5, h6⟩ := takeC_mono r (some z.1) _ s' h
      dsimp only at h1 h2 h3 h4
      have hb : z.2 ≤ s.last := by have := hc.2.2.1; rw [UInt64.lt_iff_toNat_lt] at this; rw [UInt64.le_iff_toNat_le]; omega
      refine ⟨h1, h2, by rw [h3]; simp, fun y hy => ?_, fun y hy => ?_, ?_⟩
      · rcases List.mem_cons.1 hy with e | e
        · rw [e]; exact ⟨hc.1, hc.2.1, hb⟩
        · exact h4 y e
      · rcases List.mem_cons.1 hy with e | e
        · rw [e]; exact hc.2.2.2
        · have h7 := h5 y e
          have h8 := hc.2.2.2
          unfold lessO at *
          cases o with
          | none => rfl
          | some q => exact lessR_trans _ _ _ h8 h7
      · rw [List.pairwise_cons]; exact ⟨fun y hy => h5 y hy, h6⟩
theorem WD.from {last : UInt64} {rows : List (UInt64 × UInt64)} {cs : List Cur} {s : PD} (h : fromD last rows cs = some s) : WD s ∧ s = ⟨last, rows, cs⟩ := by
  unfold fromD at h
  split at h
  · cases h
  · rename_i s1 h1
    obtain ⟨a1, a2, a3, a4, a5⟩ := takeR_mono _ _ _ _ h1
    unfold takeCs at h
    split at h
    · cases h
    · rename_i h8
      obtain ⟨b1, b2, b3, b4, b5, b6⟩ := takeC_mono _ _ _ _ h
      dsimp only at a1 a2 a3
      rw [a1] at b1
      rw [a3] at b2
      rw [a2] at b3
      rw [List.nil_append] at b2 b3
      rw [a1] at b4
      have e : s = ⟨last, rows, cs⟩ := by cases s; simp_all
      subst e
      exact ⟨⟨a5, fun z hz => ⟨(a4 z hz).2, (a4 z hz).1⟩, b4, b6, by simpa using h8⟩, rfl⟩
def FroP (w : World) (o : Option PD) (e : Ending) (w' : World) : Prop := (match o with
      | some s => ∃ p mp ms, e = .returned (.tuple #[pv p, .int .i64 0]) ∧ DD w' p mp ms s ∧ w.heap.size ≤ p ∧ w.heap.size ≤ mp ∧ w.heap.size ≤ ms
      | none => e = .returned (.tuple #[.pointer none, .int .i64 1])) ∧ Ext w w'
set_option maxHeartbeats 2000000 in
theorem dfrom_any {w : World} (last : UInt64) {v u : Value} (rows : List (UInt64 × UInt64)) (cs : List Cur) (hr : Sl w 2 v rows.length (rows.flatMap encR)) (hc : Sl w 2 u cs.length (cs.flatMap encC)) (ht : TB w) (hlr : rows.length ≤ 99999) (hln : ∀ z ∈ cs, z.1.length ≤ 100000) :
    Calls Tryd.prog 18 #[vU last, v, u] w fun e w' => FroP w (fromD last rows cs) e w' := by
  have HR := hid hr
  have HC := hid hc
  have HT := hid ht
  have HLN := hid hln
  have HLR := hid hlr
  obtain ⟨a1, c1, rfl⟩ : ∃ a c, v = .slice a rows.length c := by obtain ⟨-, a, c, e, -⟩ := hr; exact ⟨a, c, e⟩
  obtain ⟨a2, c2, rfl⟩ : ∃ a c, u = .slice a cs.length c := by obtain ⟨-, a, c, e, -⟩ := hc; exact ⟨a, c, e⟩
  obtain ⟨R, hR⟩ : ∃ R, fromD last rows cs = R := ⟨_, rfl⟩
  have HRR := hid hR
  rw [hR]
  have h2 := ht.two
  clear hr hc ht hln hlr hR
  go_enter Tryd.func18, Tryd.ntmps18
  go_wp2_with fail
  refine (dnew_any w).mono ?_
  rintro e w1 ⟨⟨p, mp, ms, rfl, hD, hp, hmp, hms⟩, hE⟩
  have hcell := lk3 hD.hd
  obtain ⟨c0, -, -, ff⟩ := hcell
  have f0 := ff 0
  have hF1 : Fr [p] w1 (w1.setCell ⟨p, 0, none⟩ (vU last)) := fr_setCell _ _ _ (by simp)
  have HE2 : Hid (Ext w (w1.setCell ⟨p, 0, none⟩ (vU last))) := hid (Below.trans hE (hF1.below (by simp; omega) hE.size))
  have HD2 : Hid (DD (w1.setCell ⟨p, 0, none⟩ (vU last)) p mp ms ⟨last, [], []⟩) := hid (by
    obtain ⟨l, hl, pl⟩ := hD.rm
    obtain ⟨k, hk, pk⟩ := hD.sm
    exact ⟨block_set hD.hd 0 _, ⟨l, hl.fr hF1 (by simpa using hD.pm.symm), pl⟩, ⟨k, hk.fr hF1 (by simpa using hD.ps.symm), pk⟩, hD.ne, hD.nr, hD.ns, hD.lr, hD.ls⟩)
  have HLO : Hid (w.heap.size ≤ p ∧ w.heap.size ≤ mp ∧ w.heap.size ≤ ms ∧ 2 ≤ w.heap.size) := hid ⟨hp, hmp, hms, h2⟩
  clear ff hD hE hF1 hp hmp hms h2
  go_wp2_with fail
  clear c0 f0
  generalize w1.setCell ⟨p, 0, none⟩ (vU last) = W2 at *
  have hfe : ∀ (w0 w' : World), Ext w w0 → Fr [p, mp, ms] w0 w' → Ext w w' := fun w0 w' hx hf => Below.trans hx (hf.below (by have := HLO.out; simp; omega) hx.size)
  have HFE := hid hfe
  refine (dtakeR_any rows HD2.out (fun w' hf => HR.out.ext (HFE.out _ _ HE2.out hf)) (by have := HLR.out; simpa using this)).mono ?_
  rintro e w3 ⟨hF3, hT⟩
  have HE3 := hid (HFE.out _ _ HE2.out hF3)
  clear hF3 hfe HE2 HD2
  cases hq : takeR 0 rows ⟨last, [], []⟩ with
  | none =>
    rw [hq] at hT
    subst hT
    have HN : Hid (none = R) := hid (by rw [← HRR.out]; unfold fromD; rw [hq])
    clear hq
    go_wp2
    go_returns
    rw [← HN.out]
    exact ⟨rfl, HE3.out⟩
  | some s1 =>
    rw [hq] at hT
    obtain ⟨rfl, hD3⟩ := hT
    have HD3 := hid hD3
    have HN : Hid (takeCs cs s1 = R) := hid (by rw [← HRR.out]; unfold fromD; rw [hq])
    have HSN : Hid (s1.seen = []) := hid (takeR_mono _ _ _ _ hq).2.1
    clear hq hD3
    go_wp2_with fail
    refine (dtakeC_any cs HD3.out HSN.out (fun w' hf => HC.out.ext (HFE.out _ _ HE3.out hf)) (TBx HT.out HE3.out) (by have := HLO.out; omega) HLN.out).mono ?_
    rintro e w4 ⟨hF4, hT⟩
    have HE4 := hid (HFE.out _ _ HE3.out hF4)
    clear hF4
    cases hq : takeCs cs s1 with
    | none =>
      rw [hq] at hT
      subst hT
      have HN2 : Hid (none = R) := hid (by rw [← HN.out, hq])
      clear hq
      go_wp2
      go_returns
      rw [← HN2.out]
      exact ⟨rfl, HE4.out⟩
    | some s2 =>
      rw [hq] at hT
      obtain ⟨rfl, hD4⟩ := hT
      have HD4 := hid hD4
      have HN2 : Hid (some s2 = R) := hid (by rw [← HN.out, hq])
      clear hq hD4
      go_wp2
      go_returns
      rw [← HN2.out]
      have := HLO.out
      exact ⟨⟨p, mp, ms, rfl, HD4.out, this.1, this.2.1, this.2.2.1⟩, HE4.out⟩
end Go.Proofs.YtfpljeblehieiaaDoor
