/- DeadDoes. -/
import Derived.Test.YtfpljeblehieiaaDoorDedRB
import Derived.Test.YtfpljeblehieiaaDoorDedY
set_option linter.unusedSimpArgs false
set_option linter.unusedVariables false
namespace Go.Proofs.YtfpljeblehieiaaDoor
open Go Go.RowKit Go.Tum Go.ChangeMaps Go.Sort Go.Tum.Rn

section
variable {B : Nat} {w w' : World} {p mp ms q : Nat} {vr vs : Value} {s s2 : PD}
theorem DD.notrow {B' e size n : Nat} {v : Value} {xs : List Value} (h : DD w p mp ms s) (ho : w.ownsRow B' e size v n xs) (he : e ≠ 68) : ∀ b ∈ oB v, b ∉ [p, mp, ms] := fun b hb hm => by
  obtain ⟨cs, e1⟩ := row_kind ho b hb
  obtain ⟨l, hl, -⟩ := h.rm
  obtain ⟨k, hk, -⟩ := h.sm
  obtain ⟨es, ck, hb2⟩ := hl.block
  obtain ⟨es2, ck2, hb3⟩ := hk.block
  simp only [List.mem_cons, List.not_mem_nil, or_false] at hm
  rcases hm with rfl | rfl | rfl
  · rw [h.hd] at e1; cases e1; exact he rfl
  · rw [hb2] at e1; cases e1
  · rw [hb3] at e1; cases e1
theorem DD.notdoc (h : DD w p mp ms s) (k : RDD B w q vr vs s2) : q ∉ [p, mp, ms] := fun hm => by
  have e1 := k.hd
  obtain ⟨l, hl, -⟩ := h.rm
  obtain ⟨k2, hk, -⟩ := h.sm
  obtain ⟨es, ck, hb2⟩ := hl.block
  obtain ⟨es2, ck2, hb3⟩ := hk.block
  simp only [List.mem_cons, List.not_mem_nil, or_false] at hm
  rcases hm with rfl | rfl | rfl
  · rw [h.hd] at e1; cases e1
  · rw [hb2] at e1; cases e1
  · rw [hb3] at e1; cases e1
theorem RDD.noS {B' : Nat} (h : RDD B w q vr vs s) {u : Value} {n : Nat} {xs : List Value} (ho : w.ownsRow B' 29 1 u n xs) : ∀ b ∈ oB u, b ∉ q :: oB vs := fun b hb hm => by
  rcases List.mem_cons.1 hm with rfl | hm
  · obtain ⟨c2, e2⟩ := row_kind ho b hb; rw [h.hd] at e2; cases e2
  · exact h.noU ho b hb hm
theorem RDD.noAct (h : RDD B w q vr vs s) {b : Nat} {a : AtD} (hq : w.heap[b]? = some (actOD a)) : b ∉ q :: oB vs := fun hm => by
  rcases List.mem_cons.1 hm with rfl | hm
  · rw [h.hd] at hq; simp at hq
  · obtain ⟨c2, e2⟩ := row_kind h.ss b hm; rw [e2] at hq; simp at hq
end
/-- The list and the document's beside each other. -/
structure DR (W0 w : World) (p mp ms q : Nat) (vr vs : Value) (sA sR : PD) : Prop where
  a : DD w p mp ms sA
  r : RDD W0.heap.size w q vr vs sR
  lo : ∀ b ∈ [p, mp, ms], W0.heap.size ≤ b
  ext : Ext W0 w
section
variable {W0 w w' : World} {p mp ms q : Nat} {vr vs vr' vs' : Value} {sA sR s' : PD}
theorem DR.fr (h : DR W0 w p mp ms q vr vs sA sR) (k : Ext w w') : DR W0 w' p mp ms q vr vs sA sR := ⟨h.a.ext k, h.r.ext k, h.lo, h.ext.trans k⟩
theorem DR.actA (h : DR W0 w p mp ms q vr vs sA sR) (hd : DD w' p mp ms s') (f : Fr [p, mp, ms] w w') : DR W0 w' p mp ms q vr vs s' sR :=
  ⟨hd, ⟨fr_at f h.r.hd (h.a.notdoc h.r), ownsRow_fr h.r.rr f (h.a.notrow h.r.rr (by decide)), ownsRow_fr h.r.ss f (h.a.notrow h.r.ss (by decide)), h.r.lo⟩, h.lo, Below.trans h.ext (f.below h.lo h.ext.size)⟩
theorem DR.actR (h : DR W0 w p mp ms q vr vs sA sR) (hr : RDD W0.heap.size w' q vr' vs' s') (f : Fr (q :: oB vs) w w') : DR W0 w' p mp ms q vr' vs' sA s' :=
  ⟨h.a.frO f (fun b hb hm => by
    rcases List.mem_cons.1 hm with rfl | hm
    · exact h.a.notdoc h.r hb
    · exact h.a.notrow h.r.ss (by decide) b hm hb), hr, h.lo, Below.trans h.ext (f.below (fun b hb => by
    rcases List.mem_cons.1 hb with rfl | hb
    · exact h.r.lo
    · exact row_lo h.r.ss b hb) h.ext.size)⟩
end
set_option maxRecDepth 100000 in
set_option maxHeartbeats 4000000 in
theorem deadDoes_law (v : Value) (m : List AtD) (w : World) (hA : ActsD w v m) (ht : TB w) :
    Calls Tryd.prog 3 #[v] w fun e w' => e = .returned (.bool true) ∧ Ext w w' := by
  have HA := hid hA
  have HT := hid ht
  obtain ⟨hrow, hokk⟩ := hA
  obtain ⟨ao, cap, rfl, hle, hm, hnn, hcell⟩ := hrow.open
  have HNN := hid hnn
  have HC := hid hcell
  clear hrow hokk hcell hnn ht
  go_enter Tryd.func3, Tryd.ntmps3
  go_wp2_with fail
  refine (dawake_any w HT.out).mono ?_
  rintro e w1 ⟨rfl, hx⟩
  have HE1 := hid hx
  clear hx
  go_wp2_with fail
  refine (dlarge_any _ m w1 (HA.out.ext HE1.out)).mono ?_
  rintro e w2 ⟨⟨r, rfl, hr⟩, hx⟩
  have HE2 := hid (HE1.out.trans hx)
  clear hx
  cases r
  case true =>
    clear hr
    go_wp2
    go_returns
    exact ⟨rfl, HE2.out⟩
  have HS := hid (hr rfl)
  clear hr
  go_wp2_with fail
  refine (dnew_any w2).mono ?_
  rintro e w4 ⟨⟨p, mp, ms, rfl, hD, hp, hmp, hms⟩, hx⟩
  have HO : Hid (DR w (w4.alloc (.cells #[.slice none 0 0, .int .u64 0, .slice none 0 0] 32 (0, 0))) p mp ms w4.heap.size (.slice none 0 0) (.slice none 0 0) newD newD) := hid (by
    have hs2 := HE2.out.size
    have hs4 := (HE2.out.trans hx).size
    refine ⟨hD.ext (Ext.alloc _ _), ⟨heap_alloc_new _ _, World.ownsRow_nil _ _ _ _, World.ownsRow_nil _ _ _ _, hs4⟩, by simp; omega, (HE2.out.trans hx).trans (Ext.alloc _ _)⟩)
  clear hD hp hmp hms hx
  go_wp2_with fail
  obtain ⟨q, hq⟩ : ∃ q, w4.heap.size = q := ⟨_, rfl⟩
  rw [hq] at HO
  try rw [hq]
  clear hq
  generalize w4.alloc (.cells #[.slice none 0 0, .int .u64 0, .slice none 0 0] 32 (0, 0)) = W5 at *
  go_wp2
  go_loopw [22] (fun iv wr => ∃ (k : Nat) (s : PD) (vr vs : Value), k ≤ m.length ∧ iv = .int .i64 (k : Int) ∧ Hid (DR w wr p mp ms q vr vs s s) ∧ Hid (Few k s)) (fun iv _ => m.length - (intOf iv).toNat)
  case atStart => exact ⟨0, newD, _, _, by omega, rfl, HO, hid ⟨WD.new, by simp, by simp⟩⟩
  case round =>
    clear HO
    obtain ⟨k, s, vr, vs, hk, rfl, HO, HF⟩ := hrel
    by_cases hlt : k < m.length
    · obtain ⟨a0, rfl⟩ := HNN.out (by omega)
      have hE := HO.out.ext
      have c0 := cell_first (hE.cell (HC.out a0 rfl k hlt 0 _ rfl))
      have c1 := cell_next (hE.cell (HC.out a0 rfl k hlt 1 _ rfl)) (by decide)
      have c2 := cell_next (hE.cell (HC.out a0 rfl k hlt 2 _ rfl)) (by decide)
      have c3 := cell_next (hE.cell (HC.out a0 rfl k hlt 3 _ rfl)) (by decide)
      have hqn := HA.out.2 m[k] (List.getElem_mem hlt)
      have hqs := HS.out.2 m[k] (List.getElem_mem hlt)
      obtain ⟨q1, hq⟩ : ∃ q, m[k] = q := ⟨_, rfl⟩
      rw [hq] at c0 c1 c2 c3 hqn hqs
      clear hq hE
      obtain ⟨dn, id, name, n⟩ := q1
      have HQN := hid hqn
      have HQS := hid hqs
      have HK := hid hlt
      have HKL : Hid (k ≤ 200) := hid (by have := HS.out.1; omega)
      have hi1 : decide ((k : Int) < m.length) = true := by simp; omega
      have hbx := heap_alloc_new wr (actOD ⟨dn, id, name, n⟩)
      have HBX := hid hbx
      obtain ⟨q0, q1, q2, q3⟩ := lk4 hbx
      have HO2 := hid (HO.out.fr (Ext.alloc wr (actOD ⟨dn, id, name, n⟩)))
      have HFA := hid (HF.out.act ⟨dn, id, name, n⟩ (by have := HKL.out; omega))
      have hc := ddo_any ⟨dn, id, name, n⟩ HO2.out.a HF.out (by have := HKL.out; omega) (TBx HT.out HO2.out.ext) HQS.out HQN.out.1
      have HDO := hid hc
      clear hbx HO hqn hqs hc
      by_cases h0 : dn = 0
      · subst h0
        have hR : actD s ⟨0, id, name, n⟩ = (([], (0 : Int), (addD s id).1), (addD s id).2) := rfl
        obtain ⟨b, hb⟩ : ∃ b, (addD s id).1 = b := ⟨_, rfl⟩
        obtain ⟨s', hs'⟩ : ∃ x, (addD s id).2 = x := ⟨_, rfl⟩
        rw [hb, hs'] at hR
        have HB0 := hid hb
        have HS0 := hid hs'
        clear hb hs'
        have HRR := hid hR
        clear hR
        go_wp2_with fail
        obtain ⟨bx, hbx⟩ : ∃ b, wr.heap.size = b := ⟨_, rfl⟩
        rw [hbx] at HBX
        try rw [hbx]
        clear hbx q0 q1 q2 q3 c0 c1 c2 c3
        have hc := HDO.out
        rw [HRR.out] at hc
        refine hc.mono ?_
        clear hc
        rintro e w12 ⟨⟨x, rfl, ho⟩, hd, hf⟩
        obtain ⟨xo, xc, rfl⟩ := row_shape ho
        have HV3 := hid ho
        have HO3 := hid (HO2.out.actA hd hf)
        have HBX3 := hid (fr_at hf HBX.out (HO2.out.a.noact HBX.out))
        obtain ⟨q0, q1, q2, q3⟩ := lk4 HBX3.out
        have HF5 : Hid (Few (k + 1) s') := hid (by have := HFA.out; rw [HRR.out] at this; exact this)
        have HRL : Hid (s.rows.length ≤ 100000) := hid (by have := HF.out.rows; have := HKL.out; omega)
        clear hd hf ho HDO
        go_wp2_with fail
        clear q0 q1 q2 q3
        have hc := radd_any id HO3.out.r HRL.out HO3.out.ext.size
        rw [HB0.out, HS0.out] at hc
        refine hc.mono ?_
        clear hc
        rintro e w13 ⟨rfl, ⟨vr', vs', hr⟩, hf⟩
        have HV4 := hid (ownsRow_fr HV3.out hf (HO3.out.r.noS HV3.out))
        have HO4 := hid (HO3.out.actR hr hf)
        clear hr hf
        have HV5 : Hid (Vec uv w13 (.slice none 0 0) []) := hid (Vec.nil _)
        have hne : ((0 : Int) != (0 : Int)) = false := by simp
        have hbb : (b != b) = false := by first | rfl | (cases b <;> rfl)
        go_wp2_with fail
        have hc := rsame64_any _ _ [] [] w13 (vec_ids HV4.out) HV5.out
        rw [show ([] == []) = true from by simp] at hc
        refine hc.mono ?_
        clear hc
        rintro e w14 ⟨rfl, hx⟩
        have HO5 := hid (HO4.out.fr hx)
        clear hx HV4 HV5 HO4
        go_wp2_with fail
        refine (own_any HO5.out.a HF5.out.wd (TBx HT.out HO5.out.ext)).mono ?_
        rintro e w15 ⟨⟨g1, vr1, vs1, rfl, hr⟩, hx⟩
        have HR1 := hid hr
        have HO6 := hid (HO5.out.fr hx)
        clear hr hx HO5
        go_wp2_with fail
        refine (same_eq HR1.out HO6.out.r).mono ?_
        rintro e w16 ⟨rfl, hx⟩
        have HO7 := hid (HO6.out.fr hx)
        clear hx HO6 HR1
        go_wp2
        go_roundw
        case rel => exact ⟨k + 1, s', vr', vs', by have := HK.out; omega, by go_num, HO7, HF5⟩
        case measure =>
          have := HK.out
          show m.length - ((k : Int) + 1).toNat < m.length - ((k : Int)).toNat
          omega
      by_cases h1 : dn = 1
      · subst h1
        have hR : actD s ⟨1, id, name, n⟩ = (([], (0 : Int), (dropD s id).1), (dropD s id).2) := rfl
        obtain ⟨b, hb⟩ : ∃ b, (dropD s id).1 = b := ⟨_, rfl⟩
        obtain ⟨s', hs'⟩ : ∃ x, (dropD s id).2 = x := ⟨_, rfl⟩
        rw [hb, hs'] at hR
        have HB0 := hid hb
        have HS0 := hid hs'
        clear hb hs'
        have HRR := hid hR
        clear hR
        go_wp2_with fail
        obtain ⟨bx, hbx⟩ : ∃ b, wr.heap.size = b := ⟨_, rfl⟩
        rw [hbx] at HBX
        try rw [hbx]
        clear hbx q0 q1 q2 q3 c0 c1 c2 c3
        have hc := HDO.out
        rw [HRR.out] at hc
        refine hc.mono ?_
        clear hc
        rintro e w12 ⟨⟨x, rfl, ho⟩, hd, hf⟩
        obtain ⟨xo, xc, rfl⟩ := row_shape ho
        have HV3 := hid ho
        have HO3 := hid (HO2.out.actA hd hf)
        have HBX3 := hid (fr_at hf HBX.out (HO2.out.a.noact HBX.out))
        obtain ⟨q0, q1, q2, q3⟩ := lk4 HBX3.out
        have HF5 : Hid (Few (k + 1) s') := hid (by have := HFA.out; rw [HRR.out] at this; exact this)
        have HRL : Hid (s.rows.length ≤ 100000) := hid (by have := HF.out.rows; have := HKL.out; omega)
        clear hd hf ho HDO
        go_wp2_with fail
        clear q0 q1 q2 q3
        have hc := rdrop_any id HO3.out.r HRL.out HO3.out.ext.size
        rw [HB0.out, HS0.out] at hc
        refine hc.mono ?_
        clear hc
        rintro e w13 ⟨rfl, ⟨vr', vs', hr⟩, hf⟩
        have HV4 := hid (ownsRow_fr HV3.out hf (HO3.out.r.noS HV3.out))
        have HO4 := hid (HO3.out.actR hr hf)
        clear hr hf
        have HV5 : Hid (Vec uv w13 (.slice none 0 0) []) := hid (Vec.nil _)
        have hne : ((0 : Int) != (0 : Int)) = false := by simp
        have hbb : (b != b) = false := by first | rfl | (cases b <;> rfl)
        go_wp2_with fail
        have hc := rsame64_any _ _ [] [] w13 (vec_ids HV4.out) HV5.out
        rw [show ([] == []) = true from by simp] at hc
        refine hc.mono ?_
        clear hc
        rintro e w14 ⟨rfl, hx⟩
        have HO5 := hid (HO4.out.fr hx)
        clear hx HV4 HV5 HO4
        go_wp2_with fail
        refine (own_any HO5.out.a HF5.out.wd (TBx HT.out HO5.out.ext)).mono ?_
        rintro e w15 ⟨⟨g1, vr1, vs1, rfl, hr⟩, hx⟩
        have HR1 := hid hr
        have HO6 := hid (HO5.out.fr hx)
        clear hr hx HO5
        go_wp2_with fail
        refine (same_eq HR1.out HO6.out.r).mono ?_
        rintro e w16 ⟨rfl, hx⟩
        have HO7 := hid (HO6.out.fr hx)
        clear hx HO6 HR1
        go_wp2
        go_roundw
        case rel => exact ⟨k + 1, s', vr', vs', by have := HK.out; omega, by go_num, HO7, HF5⟩
        case measure =>
          have := HK.out
          show m.length - ((k : Int) + 1).toNat < m.length - ((k : Int)).toNat
          omega
      by_cases h2 : dn = 2
      · subst h2
        have hR : actD s ⟨2, id, name, n⟩ = (((nextD s name n).1, (nextD s name n).2.1, false), (nextD s name n).2.2) := rfl
        obtain ⟨R, hR2⟩ : ∃ R, nextD s name n = R := ⟨_, rfl⟩
        rw [hR2] at hR
        have HR0 := hid hR2
        clear hR2
        obtain ⟨ids, err, s'⟩ := R
        dsimp only at hR
        have HRR := hid hR
        clear hR
        go_wp2_with fail
        obtain ⟨bx, hbx⟩ : ∃ b, wr.heap.size = b := ⟨_, rfl⟩
        rw [hbx] at HBX
        try rw [hbx]
        clear hbx q0 q1 q2 q3 c0 c1 c2 c3
        have hc := HDO.out
        rw [HRR.out] at hc
        refine hc.mono ?_
        clear hc
        rintro e w12 ⟨⟨x, rfl, ho⟩, hd, hf⟩
        obtain ⟨xo, xc, rfl⟩ := row_shape ho
        have HV3 := hid ho
        have HO3 := hid (HO2.out.actA hd hf)
        have HBX3 := hid (fr_at hf HBX.out (HO2.out.a.noact HBX.out))
        obtain ⟨q0, q1, q2, q3⟩ := lk4 HBX3.out
        have HF5 : Hid (Few (k + 1) s') := hid (by have := HFA.out; rw [HRR.out] at this; exact this)
        have HRL : Hid (s.rows.length ≤ 100000) := hid (by have := HF.out.rows; have := HKL.out; omega)
        clear hd hf ho HDO
        go_wp2_with fail
        clear q0 q1 q2 q3
        have hc := rnext_any name n HQN.out.1.1 HQN.out.1.2 HO3.out.r HF.out.wd (by have := HQS.out; omega) HRL.out HO3.out.ext.size
        rw [HR0.out] at hc
        refine hc.mono ?_
        clear hc
        rintro e w13 ⟨⟨y, rfl, ho⟩, ⟨vr', vs', hr⟩, hf⟩
        obtain ⟨yo, yc, rfl⟩ := row_shape ho
        have HV5 := hid (vec_ids ho)
        clear ho
        have HV4 := hid (ownsRow_fr HV3.out hf (HO3.out.r.noS HV3.out))
        have HO4 := hid (HO3.out.actR hr hf)
        clear hr hf
        skip
        have hne : (err != err) = false := by simp
        have hbb : (false != false) = false := by first | rfl | (cases false <;> rfl)
        go_wp2_with fail
        have hc := rsame64_any _ _ ids ids w13 (vec_ids HV4.out) HV5.out
        rw [show (ids == ids) = true from by simp] at hc
        refine hc.mono ?_
        clear hc
        rintro e w14 ⟨rfl, hx⟩
        have HO5 := hid (HO4.out.fr hx)
        clear hx HV4 HV5 HO4
        go_wp2_with fail
        refine (own_any HO5.out.a HF5.out.wd (TBx HT.out HO5.out.ext)).mono ?_
        rintro e w15 ⟨⟨g1, vr1, vs1, rfl, hr⟩, hx⟩
        have HR1 := hid hr
        have HO6 := hid (HO5.out.fr hx)
        clear hr hx HO5
        go_wp2_with fail
        refine (same_eq HR1.out HO6.out.r).mono ?_
        rintro e w16 ⟨rfl, hx⟩
        have HO7 := hid (HO6.out.fr hx)
        clear hx HO6 HR1
        go_wp2
        go_roundw
        case rel => exact ⟨k + 1, s', vr', vs', by have := HK.out; omega, by go_num, HO7, HF5⟩
        case measure =>
          have := HK.out
          show m.length - ((k : Int) + 1).toNat < m.length - ((k : Int)).toNat
          omega
      have hR : actD s ⟨dn, id, name, n⟩ = (([], (0 : Int), (s.rows.lookup id).isSome), s) := by unfold actD; dsimp only; rw [if_neg h0, if_neg h1, if_neg h2]
      obtain ⟨b, hb⟩ : ∃ b, (s.rows.lookup id).isSome = b := ⟨_, rfl⟩
      rw [hb] at hR
      have HB0 := hid hb
      have d0 : (dn == 0) = false := by simpa using h0
      have d1 : (dn == 1) = false := by simpa using h1
      have d2 : (dn == 2) = false := by simpa using h2
      clear hb
      have HRR := hid hR
      clear hR
      go_wp2_with fail
      obtain ⟨bx, hbx⟩ : ∃ b, wr.heap.size = b := ⟨_, rfl⟩
      rw [hbx] at HBX
      try rw [hbx]
      clear hbx q0 q1 q2 q3 c0 c1 c2 c3
      have hc := HDO.out
      rw [HRR.out] at hc
      refine hc.mono ?_
      clear hc
      rintro e w12 ⟨⟨x, rfl, ho⟩, hd, hf⟩
      obtain ⟨xo, xc, rfl⟩ := row_shape ho
      have HV3 := hid ho
      have HO3 := hid (HO2.out.actA hd hf)
      have HBX3 := hid (fr_at hf HBX.out (HO2.out.a.noact HBX.out))
      obtain ⟨q0, q1, q2, q3⟩ := lk4 HBX3.out
      have HF5 : Hid (Few (k + 1) s) := hid (by have := HFA.out; rw [HRR.out] at this; exact this)
      have HRL : Hid (s.rows.length ≤ 100000) := hid (by have := HF.out.rows; have := HKL.out; omega)
      clear hd hf ho HDO
      go_wp2_with fail
      clear q0 q1 q2 q3
      have hc := rhas_any id HO3.out.r
      rw [HB0.out] at hc
      refine hc.mono ?_
      clear hc
      rintro e w13 ⟨rfl, hx⟩
      have hf : Fr (q :: oB vs) w12 w13 := Ext.fr hx
      have hr := HO3.out.r.ext hx
      clear hx
      have HV4 := hid (ownsRow_fr HV3.out hf (HO3.out.r.noS HV3.out))
      have HO4 := hid (HO3.out.actR hr hf)
      clear hr hf
      have HV5 : Hid (Vec uv w13 (.slice none 0 0) []) := hid (Vec.nil _)
      have hne : ((0 : Int) != (0 : Int)) = false := by simp
      have hbb : (b != b) = false := by first | rfl | (cases b <;> rfl)
      go_wp2_with fail
      have hc := rsame64_any _ _ [] [] w13 (vec_ids HV4.out) HV5.out
      rw [show ([] == []) = true from by simp] at hc
      refine hc.mono ?_
      clear hc
      rintro e w14 ⟨rfl, hx⟩
      have HO5 := hid (HO4.out.fr hx)
      clear hx HV4 HV5 HO4
      go_wp2_with fail
      refine (own_any HO5.out.a HF5.out.wd (TBx HT.out HO5.out.ext)).mono ?_
      rintro e w15 ⟨⟨g1, vr1, vs1, rfl, hr⟩, hx⟩
      have HR1 := hid hr
      have HO6 := hid (HO5.out.fr hx)
      clear hr hx HO5
      go_wp2_with fail
      refine (same_eq HR1.out HO6.out.r).mono ?_
      rintro e w16 ⟨rfl, hx⟩
      have HO7 := hid (HO6.out.fr hx)
      clear hx HO6 HR1
      go_wp2
      go_roundw
      case rel => exact ⟨k + 1, s, vr, vs, by have := HK.out; omega, by go_num, HO7, HF5⟩
      case measure =>
        have := HK.out
        show m.length - ((k : Int) + 1).toNat < m.length - ((k : Int)).toNat
        omega
    · have hkf : decide ((k : Int) < (m.length : Int)) = false := by simp; omega
      have HE9 := hid HO.out.ext
      clear HO
      go_wp2
      go_returns
      exact ⟨rfl, HE9.out⟩
end Go.Proofs.YtfpljeblehieiaaDoor
