/- DiskFuse. -/
import Derived.Test.YtkaafllbmeppnaaDskL
set_option linter.unusedSimpArgs false
set_option linter.unusedVariables false
namespace Go.Proofs.Ytkaafllbmeppnaa
open Go Go.RowKit Go.Tum Go.ChangeMaps

/-- A disk with another fuse. -/
abbrev FU (s : PS) (fu : Int) (dw : Bool) : PS := { s with fuse := fu, down := dw }
theorem fusS_no {s : PS} (hf : s.fuse = -1) : fusS s = s := by
  obtain ⟨a, b, c, d, e, f⟩ := s
  simp only at hf
  subst hf
  rfl
theorem doP_fuse {s : PS} (hf : s.fuse = -1) (hd : s.down = false) (fu : Int) (h0 : 0 ≤ fu) (e : Nat) (act : PS → PS) (hact : ∀ f, act (FU s f false) = FU (act s) f false) (h1 : (act s).fuse = s.fuse) (h2 : (act s).down = s.down) :
    (fu = 0 ∧ doP (FU s fu false) e act = (7, FU s 0 true)) ∨
    ∃ fu', 0 ≤ fu' ∧ doP (FU s fu false) e act = ((doP s e act).1, FU (doP s e act).2 fu' false) ∧ (doP s e act).2.fuse = -1 ∧ (doP s e act).2.down = false ∧ (fu' = if (doP s e act).1 = 0 then fu - 1 else fu) := by
  by_cases he : e = 0
  · subst he
    have hb : doP s 0 act = (0, act s) := by
      unfold doP
      rw [if_neg (by rw [hd]; decide), if_neg (by simp), if_neg (by rw [hf]; decide)]
      show (0, act (fusS s)) = _
      rw [fusS_no hf]
    by_cases hz : fu = 0
    · subst hz
      left
      refine ⟨rfl, ?_⟩
      unfold doP
      rw [if_neg (by simp), if_neg (by simp), if_pos rfl]
    · right
      have ha : doP (FU s fu false) 0 act = (0, FU (act s) (fu - 1) false) := by
        unfold doP
        rw [if_neg (by simp), if_neg (by simp), if_neg hz]
        show (0, act (FU s (if 0 < fu then fu - 1 else fu) false)) = _
        rw [if_pos (by omega), hact]
      refine ⟨fu - 1, by omega, ?_, ?_, ?_, ?_⟩
      · rw [ha, hb]
      · rw [hb]; exact h1.trans hf
      · rw [hb]; exact h2.trans hd
      · rw [hb]; rfl
  · right
    have hb : doP s e act = (e, s) := by
      unfold doP
      rw [if_neg (by rw [hd]; decide), if_pos he]
    have ha : doP (FU s fu false) e act = (e, FU s fu false) := by
      unfold doP
      rw [if_neg (by simp), if_pos he]
    refine ⟨fu, h0, by rw [ha, hb], by rw [hb]; exact hf, by rw [hb]; exact hd, by rw [hb]; simp [he]⟩
theorem act_fuse {s : PS} (hf : s.fuse = -1) (hd : s.down = false) (fu : Int) (h0 : 0 ≤ fu) (a : At) (h7 : a.dn ≠ 7) (h8 : a.dn ≠ 8) :
    (fu = 0 ∧ actS (FU s fu false) a = (7, FU s 0 true)) ∨
    ∃ fu', 0 ≤ fu' ∧ actS (FU s fu false) a = ((actS s a).1, FU (actS s a).2 fu' false) ∧ (actS s a).2.fuse = -1 ∧ (actS s a).2.down = false ∧ (fu' = if (actS s a).1 = 0 ∧ 0 ≤ a.dn ∧ a.dn ≤ 6 then fu - 1 else fu) := by
  have key : ∀ (e : Nat) (act : PS → PS), actS s a = doP s e act → actS (FU s fu false) a = doP (FU s fu false) e act → (∀ f, act (FU s f false) = FU (act s) f false) → (act s).fuse = s.fuse → (act s).down = s.down → 0 ≤ a.dn ∧ a.dn ≤ 6 →
      ((fu = 0 ∧ actS (FU s fu false) a = (7, FU s 0 true)) ∨
      ∃ fu', 0 ≤ fu' ∧ actS (FU s fu false) a = ((actS s a).1, FU (actS s a).2 fu' false) ∧ (actS s a).2.fuse = -1 ∧ (actS s a).2.down = false ∧ (fu' = if (actS s a).1 = 0 ∧ 0 ≤ a.dn ∧ a.dn ≤ 6 then fu - 1 else fu)) := by
    intro e act e1 e2 k1 k2 k3 hr
    rw [e1, e2]
    rcases doP_fuse hf hd fu h0 e act k1 k2 k3 with h | ⟨fu', q1, q2, q3, q4, q5⟩
    · exact .inl h
    · exact .inr ⟨fu', q1, q2, q3, q4, by rw [q5]; simp only [hr, and_true]⟩
  by_cases d0 : a.dn = 0
  · exact key (creE s a.name) _ (by unfold actS; rw [if_pos d0]; rfl) (by unfold actS; rw [if_pos d0]; rfl) (fun _ => rfl) rfl rfl (by omega)
  by_cases d1 : a.dn = 1
  · exact key (appE s a.name a.b) _ (by unfold actS; rw [if_neg d0, if_pos d1]; rfl) (by unfold actS; rw [if_neg d0, if_pos d1]; rfl) (fun _ => rfl) rfl rfl (by omega)
  by_cases d2 : a.dn = 2
  · exact key (missP s a.name) _ (by unfold actS; rw [if_neg d0, if_neg d1, if_pos d2]; rfl) (by unfold actS; rw [if_neg d0, if_neg d1, if_pos d2]; rfl) (fun _ => rfl) rfl rfl (by omega)
  by_cases d3 : a.dn = 3
  · exact key (cutE s a.name a.n) _ (by unfold actS; rw [if_neg d0, if_neg d1, if_neg d2, if_pos d3]; rfl) (by unfold actS; rw [if_neg d0, if_neg d1, if_neg d2, if_pos d3]; rfl) (fun _ => rfl) rfl rfl (by omega)
  by_cases d4 : a.dn = 4
  · exact key (renE s a.name a.to) _ (by unfold actS; rw [if_neg d0, if_neg d1, if_neg d2, if_neg d3, if_pos d4]; rfl) (by unfold actS; rw [if_neg d0, if_neg d1, if_neg d2, if_neg d3, if_pos d4]; rfl) (fun _ => rfl) rfl rfl (by omega)
  by_cases d5 : a.dn = 5
  · exact key (missP s a.name) _ (by unfold actS; rw [if_neg d0, if_neg d1, if_neg d2, if_neg d3, if_neg d4, if_pos d5]; rfl) (by unfold actS; rw [if_neg d0, if_neg d1, if_neg d2, if_neg d3, if_neg d4, if_pos d5]; rfl) (fun _ => rfl) rfl rfl (by omega)
  by_cases d6 : a.dn = 6
  · exact key 0 _ (by unfold actS; rw [if_neg d0, if_neg d1, if_neg d2, if_neg d3, if_neg d4, if_neg d5, if_pos d6]; rfl) (by unfold actS; rw [if_neg d0, if_neg d1, if_neg d2, if_neg d3, if_neg d4, if_neg d5, if_pos d6]; rfl) (fun _ => rfl) rfl rfl (by omega)
  have e1 : ∀ t, actS t a = (rdE t a.name, t) := fun t => by simp only [actS, d0, d1, d2, d3, d4, d5, d6, h7, h8, if_false]
  right
  refine ⟨fu, h0, ?_, ?_, ?_, ?_⟩
  · rw [e1, e1]
    have : rdE (FU s fu false) a.name = rdE s a.name := by unfold rdE; rw [hd]; rfl
    rw [this]
  · rw [e1]; exact hf
  · rw [e1]; exact hd
  · rw [if_neg (by omega)]
theorem actB_fuse {s : PS} (hd : s.down = false) (fu : Int) (a : At) : actB (FU s fu false) a = actB s a := by
  unfold actB rdB
  rw [hd]
  rfl
theorem wf_fu {s : PS} (h : WF s) (fu : Int) (dw : Bool) (h0 : 0 ≤ fu) (h1 : fu ≤ 9223372036854775807) : WF (FU s fu dw) := h.pow fu dw (by omega)

set_option maxRecDepth 100000 in
set_option maxHeartbeats 1000000 in
theorem diskFuse_law (room n0 : Int) (v : Value) (m : List AtV) (w : World) (hA : Acts w v m) (hn0 : n0 ≤ 9223372036854775807) :
    Calls Try.prog 6 #[.int .i64 room, .int .i64 n0, v] w fun e w' => e = .returned (.bool true) ∧ Ext w w' := by
  have HA := hid hA
  have HN0 := hid hn0
  obtain ⟨hrow, hokk⟩ := hA
  obtain ⟨ao, cap, rfl, hle, hm, hnn, hcell⟩ := hrow.open
  have HNN := hid hnn
  clear hrow hokk hcell hnn hn0
  go_enter Try.func6, Try.ntmps6
  go_wp2_with fail
  refine (awake_any _).mono ?_
  rintro e w1 ⟨rfl, hw⟩
  have HE1 := hid hw
  clear hw
  go_wp2_with fail
  refine (dnew_any w1 w.heap.size HE1.out.size room).mono ?_
  intro e w2 hn
  by_cases hr : 16 ≤ room ∧ room ≤ 1048576
  case neg =>
    obtain ⟨rfl, hE⟩ := hn.1 (by omega)
    have HE2 := hid (HE1.out.trans hE)
    clear hn hE
    go_wp2_with fail
    refine (dnew_any w2 w.heap.size HE2.out.size room).mono ?_
    intro e w3 hn
    obtain ⟨rfl, hE⟩ := hn.1 (by omega)
    have HE3 := hid (HE2.out.trans hE)
    clear hn hE hr
    go_wp2
    go_ret
    exact ⟨rfl, HE3.out⟩
  obtain ⟨p, xa0, rfl, D, E, hnw⟩ := hn.2 hr.1 hr.2
  have HR : Hid (16 ≤ room ∧ room ≤ 1048576) := hid hr
  have HE2 := hid (HE1.out.trans E)
  have HD2 := hid D
  clear hn hr D E HE1 hnw
  go_wp2_with fail
  refine (dnew_any w2 w.heap.size HE2.out.size room).mono ?_
  intro e w3 hn
  obtain ⟨p2, xb0, rfl, D, E, hnw⟩ := hn.2 HR.out.1 HR.out.2
  have HE3 := hid (HE2.out.trans E)
  have HD3 := hid (HD2.out.ext E)
  have HF3 := hid D
  have HJ3 : Hid (∀ q ∈ xa0.blk p, q ∉ xb0.blk p2) := hid fun q hq hm => by have := HD2.out.lt q hq; have := hnw q hm; omega
  clear hn D E HE2 HD2 hnw
  go_wp2_with fail
  refine (large_any _ m w3 ⟨HA.out.1.ext HE3.out, fun q hq => (HA.out.2 q hq).ext HE3.out⟩).mono ?_
  rintro e w4 ⟨⟨r, rfl, hr⟩, hE⟩
  have HE4 : Hid (Ext w w4) := hid (HE3.out.trans hE)
  have HD4 := hid (HD3.out.ext hE)
  have HF4 := hid (HF3.out.ext hE)
  clear hE HD3 HE3 HF3
  cases r
  case true =>
    clear hr
    go_wp2
    go_ret
    exact ⟨rfl, HE4.out⟩
  have HS := hid (hr rfl)
  clear hr
  by_cases hneg : n0 < 0
  · have hd : decide (n0 < 0) = true := by simpa using hneg
    clear hneg
    go_wp2
    go_ret
    exact ⟨rfl, HE4.out⟩
  have hd : decide (n0 < 0) = false := by simpa using hneg
  have HN1 : Hid (0 ≤ n0) := hid (by omega)
  clear hneg
  go_wp2_with fail
  clear hd
  refine (dfuse_any n0 HN0.out HD4.out HE4.out.size).mono ?_
  rintro e w5 ⟨⟨u, rfl⟩, xa, hD, hF, hL, hg⟩
  have hfs : fusP (newP room.toNat) n0 = FU (newP room.toNat) n0 false := by
    unfold fusP
    rw [show max n0 (-1) = n0 by have := HN1.out; omega]
    rfl
  rw [hfs] at hD
  have HD5 := hid hD
  have HF5 := hid (HF4.out.fr hF (fun q hq hm => HJ3.out q hm hq))
  have HE5 := hid (Ext.below HE4.out hL)
  have HJ5 : Hid (∀ q ∈ xa.blk p, q ∉ xb0.blk p2) := hid fun q hq hm => by
    rcases hg q hq with h | h
    · exact HJ3.out q h hm
    · have := HF4.out.lt q hm; omega
  clear hD hF hL hg hfs HD4 HF4 HE4 HJ3
  go_wp2
  go_loopw [11, 49] (fun t i wr => ∃ (k done : Nat) (xa xb : DX) (s : PS) (fu : Int) (dw : Bool), k ≤ m.length ∧ i = .int .i64 k ∧ t = .int .i64 done ∧ Hid (done ≤ k ∧ (done : Int) + fu = n0 ∧ 0 ≤ fu ∧ (dw = true → fu = 0)) ∧ Hid (s.opn.length ≤ k) ∧ Hid (WF s) ∧ Hid (s.fuse = -1 ∧ s.down = false) ∧
    Hid (Dk w.heap.size wr p xa (FU s fu dw)) ∧ Hid (Dk w.heap.size wr p2 xb s) ∧ Hid (∀ q ∈ xa.blk p, q ∉ xb.blk p2) ∧ Hid (Ext w wr)) (fun t i _ => m.length - (intOf i).toNat)
  case atStart => exact ⟨0, 0, xa, xb0, _, n0, false, by omega, rfl, rfl, hid ⟨Nat.le_refl _, by omega, HN1.out, (fun h => by cases h)⟩, hid (by simp [newP]), hid (wf_new (by have := HR.out; omega)), hid ⟨rfl, rfl⟩, HD5, HF5, HJ5, HE5⟩
  case round =>
    clear HD5 HF5 HJ5 HE5
    obtain ⟨k, done, xa, xb, s, fu, dw, hk, rfl, rfl, HI, HO, HW, HFD, HD, HG, HJ, HE⟩ := hrel
    by_cases hlt : k < m.length
    · obtain ⟨a0, rfl⟩ := HNN.out (by omega)
      obtain ⟨dn, n, name, to, b, ts, uo, uc, vo, vc, hok, hbl, -, c0, c1, c2, c3, c4, c5⟩ := acts_at HA.out HE.out HS.out k hlt
      have hml := HS.out.1
      have HLT := hid hlt
      have hlow := hok.low
      have HOK := hid hok
      have HSM : Hid (b.length ≤ 1000 ∧ k ≤ 40) := hid ⟨hbl, by omega⟩
      have HLOW := hid hlow
      clear hok hlow hbl hml
      have hi1 : decide ((k : Int) < m.length) = true := by simp; omega
      have HE4 := hid (HE.out.trans (Ext.alloc wr (actO (⟨dn, n, name, to, b, ts⟩, .slice uo b.length uc, .slice vo ts.length vc))))
      have HB4 := hid (heap_alloc_new wr (actO (⟨dn, n, name, to, b, ts⟩, .slice uo b.length uc, .slice vo ts.length vc)))
      have HD4 := hid (HD.out.ext (Ext.alloc wr (actO (⟨dn, n, name, to, b, ts⟩, .slice uo b.length uc, .slice vo ts.length vc))))
      have HG4 := hid (HG.out.ext (Ext.alloc wr (actO (⟨dn, n, name, to, b, ts⟩, .slice uo b.length uc, .slice vo ts.length vc))))
      have HXL : Hid ((∀ q ∈ xa.blk p, q < wr.heap.size) ∧ ∀ q ∈ xb.blk p2, q < wr.heap.size) := hid ⟨HD.out.lt, HG.out.lt⟩
      by_cases h7 : dn = 7
      · subst h7
        go_wp2
        go_roundw
        case rel => exact ⟨k + 1, done, xa, xb, s, fu, dw, HLT.out, by go_num, rfl, hid (by have := HI.out; exact ⟨by omega, this.2⟩), hid (by have := HO.out; omega), HW, HFD, HD4, HG4, HJ, HE4⟩
        case measure =>
          have := HLT.out
          simp [intOf]; omega
      by_cases h8 : dn = 8
      · subst h8
        go_wp2
        go_roundw
        case rel => exact ⟨k + 1, done, xa, xb, s, fu, dw, HLT.out, by go_num, rfl, hid (by have := HI.out; exact ⟨by omega, this.2⟩), hid (by have := HO.out; omega), HW, HFD, HD4, HG4, HJ, HE4⟩
        case measure =>
          have := HLT.out
          simp [intOf]; omega
      have b7 : (dn == 7) = false := by simpa using h7
      have b8 : (dn == 8) = false := by simpa using h8
      go_wp2_with fail
      refine (ddown_any HD4.out).mono ?_
      rintro e w5 ⟨rfl, rfl⟩
      have hdd : (FU s fu dw).down = dw := rfl
      rw [hdd]
      clear hdd c0 c1 c2 c3 c4 c5 hi1
      obtain ⟨ab, hab⟩ : ∃ ab, wr.heap.size = ab := ⟨_, rfl⟩
      rw [hab] at HB4 HXL ⊢
      have HAB : Hid (ab < (wr.alloc (actO (⟨dn, n, name, to, b, ts⟩, .slice uo b.length uc, .slice vo ts.length vc))).heap.size) := hid (by rw [← hab]; simp)
      clear hab
      generalize hW4 : wr.alloc (actO (⟨dn, n, name, to, b, ts⟩, .slice uo b.length uc, .slice vo ts.length vc)) = w4 at *
      clear hW4
      cases dw
      case true =>
        go_wp2
        go_roundw
        case rel => exact ⟨k + 1, done, xa, xb, s, fu, true, HLT.out, by go_num, rfl, hid (by have := HI.out; exact ⟨by omega, this.2.1, this.2.2.1, fun _ => this.2.2.2 trivial⟩), hid (by have := HO.out; omega), HW, HFD, HD4, HG4, HJ, HE4⟩
        case measure =>
          have := HLT.out
          simp [intOf]; omega
      obtain ⟨⟨e0, e1, e2, e3, e4, e5⟩, -⟩ := lk6 HB4.out
      go_wp2_with fail
      refine (do_any (B := w.heap.size) (⟨dn, n, name, to, b, ts⟩, .slice uo b.length uc, .slice vo ts.length vc) (HOK.out.ext HE4.out) HD4.out HE4.out.size (wf_fu HW.out fu false HI.out.2.2.1 (by have := HI.out; have := HN0.out; omega)) (by have := HO.out; have := HSM.out.2; show s.opn.length ≤ 100000; omega) (by have := HSM.out.1; show b.length ≤ 1048576; omega) HLOW.out).mono ?_
      rintro e w7 ⟨⟨rv, rfl, ho⟩, x7, hD7, hF7, hL7, hg7⟩
      dsimp only at hD7 ho ⊢
      rw [actB_fuse HFD.out.2] at ho
      obtain ⟨LB, hLB⟩ : ∃ l, actB s ⟨dn, n, name, to, b, ts⟩ = l := ⟨_, rfl⟩
      have HLB := hid hLB
      rw [hLB] at ho
      clear hLB
      obtain ⟨ro, rc, hrv, -⟩ := ho.byt.open
      subst hrv
      have HV7 := hid ho
      have HX4 : Hid (∀ q ∈ xb.blk p2, q < w4.heap.size) := hid HG4.out.lt
      have HE7 := hid (Ext.below HE4.out hL7)
      have HB7 := hid ((hF7.block ab HAB.out (fun hm => by have := HXL.out.1 _ hm; omega)).trans HB4.out)
      have HAB7 := hid (Nat.lt_of_lt_of_le HAB.out hF7.size)
      have HG7 := hid (HG4.out.fr hF7 (fun q hq hm => HJ.out q hm hq))
      have HJ7 : Hid (∀ q ∈ x7.blk p, q ∉ xb.blk p2) := hid fun q hq hm => by
        rcases hg7 q hq with h | h
        · exact HJ.out q h hm
        · have := HX4.out q hm; omega
      have HO7 : Hid ((actS s ⟨dn, n, name, to, b, ts⟩).2.opn.length ≤ k + 1) := hid (by have := HO.out; have := act_opn s ⟨dn, n, name, to, b, ts⟩; omega)
      have HW7 := hid (HW.out.act ⟨dn, n, name, to, b, ts⟩ HOK.out.n)
      have hcase := act_fuse HFD.out.1 HFD.out.2 fu HI.out.2.2.1 ⟨dn, n, name, to, b, ts⟩ h7 h8
      clear ho hF7 hL7 hg7 e0 e1 e2 e3 e4 e5 HE4 HB4 HD4 HG4 HAB HJ h7 h8 b7 b8
      rcases hcase with ⟨hz, hq⟩ | ⟨fu2, q1, q2, q3, q4, q5⟩
      · rw [hq] at hD7 ⊢
        have HD7 := hid hD7
        clear hD7 hq
        go_wp2_with fail
        refine (ddown_any HD7.out).mono ?_
        rintro e w8 ⟨rfl, rfl⟩
        have hdn : ((done : Int) != n0) = false := by have := HI.out; simp; omega
        go_wp2
        go_roundw
        case rel => exact ⟨k + 1, done, x7, xb, s, 0, true, HLT.out, by go_num, rfl, hid (by have := HI.out; exact ⟨by omega, by omega, by omega, fun _ => rfl⟩), hid (by have := HO.out; omega), HW, HFD, HD7, HG7, HJ7, HE7⟩
        case measure =>
          have := HLT.out
          simp [intOf]; omega
      · rw [q2] at hD7 ⊢
        have HD7 := hid hD7
        have HQ1 := hid q1
        have HQ3 := hid (And.intro q3 q4)
        have HQ5 := hid q5
        dsimp only at q5 ⊢
        clear hD7 q1 q2 q3 q4 q5
        go_wp2_with fail
        refine (ddown_any HD7.out).mono ?_
        rintro e w8 ⟨rfl, rfl⟩
        obtain ⟨⟨e0, e1, e2, e3, e4, e5⟩, -⟩ := lk6 HB7.out
        go_wp2_with fail
        refine (do_any (B := w.heap.size) (⟨dn, n, name, to, b, ts⟩, .slice uo b.length uc, .slice vo ts.length vc) (HOK.out.ext HE7.out) HG7.out HE7.out.size HW.out (by have := HO.out; have := HSM.out.2; omega) (by have := HSM.out.1; show b.length ≤ 1048576; omega) HLOW.out).mono ?_
        rintro e w9 ⟨⟨rv2, rfl, ho⟩, x9, hD9, hF9, hL9, hg9⟩
        dsimp only at hD9 ho ⊢
        rw [HLB.out] at ho
        obtain ⟨ro2, rc2, hrv, -⟩ := ho.byt.open
        subst hrv
        have HV9 := hid (Own.byt ho)
        have HV9a := hid (Own.byt (own_keep HV7.out HX4.out hF9))
        have HE9 := hid (Ext.below HE7.out hL9)
        have HB9 := hid ((hF9.block ab HAB7.out (fun hm => by have := HXL.out.2 _ hm; omega)).trans HB7.out)
        have HD9 := hid (HD7.out.fr hF9 (fun q hq hm => HJ7.out q hq hm))
        have HG9 := hid hD9
        have HJ9 : Hid (∀ q ∈ x7.blk p, q ∉ x9.blk p2) := hid fun q hq hm => by
          rcases hg9 q hm with h | h
          · exact HJ7.out q hq h
          · have := HD7.out.lt q hq; omega
        clear ho hD9 hF9 hL9 hg9 e0 e1 e2 e3 e4 e5 HE7 HB7 HD7 HG7 HJ7 HV7
        obtain ⟨R, hR⟩ : ∃ R, actS s ⟨dn, n, name, to, b, ts⟩ = R := ⟨_, rfl⟩
        rw [hR] at HD9 HG9 HW7 HO7 HQ3 HQ5 ⊢
        clear hR
        obtain ⟨er, s9⟩ := R
        dsimp only at HD9 HG9 HW7 HO7 HQ3 HQ5 ⊢
        go_wp2_with fail
        refine (rsame_any _ _ LB LB _ HV9a.out HV9.out).mono ?_
        rintro e w10 ⟨rfl, hE⟩
        have hself : (LB == LB) = true := by simp
        rw [hself]
        have HE10 := hid (HE9.out.trans hE)
        have HB10 := hid (hE.obj HB9.out)
        have HD10 := hid (HD9.out.ext hE)
        have HG10 := hid (HG9.out.ext hE)
        clear hE HE9 HB9 HD9 HG9 HV9 HV9a hself
        obtain ⟨⟨e0, e1, e2, e3, e4, e5⟩, -⟩ := lk6 HB10.out
        have hI := HI.out
        have hq5 := HQ5.out
        have hkk := HSM.out.2
        by_cases her : er = 0
        · subst her
          by_cases g0 : 0 ≤ dn
          · have d0 : decide (0 ≤ dn) = true := by simpa using g0
            by_cases g6 : dn ≤ 6
            · have d6 : decide (dn ≤ 6) = true := by simpa using g6
              rw [if_pos ⟨rfl, g0, g6⟩] at hq5
              subst hq5
              have HII := hid (And.intro hI.1 hI.2.1)
              have hdn : done ≤ 40 := by omega
              clear hI hkk g0 g6
              go_wp2
              go_roundw
              case rel => exact ⟨k + 1, done + 1, x7, x9, s9, fu - 1, false, HLT.out, by go_num, by go_num, hid (by have := HII.out; exact ⟨by omega, by omega, HQ1.out, fun h => by cases h⟩), HO7, HW7, HQ3, HD10, HG10, HJ9, HE10⟩
              case measure =>
                have := HLT.out
                simp [intOf]; omega
            · have d6 : decide (dn ≤ 6) = false := by simpa using g6
              rw [if_neg (by omega)] at hq5
              subst hq5
              clear hI hkk g0 g6
              go_wp2
              go_roundw
              case rel => exact ⟨k + 1, done, x7, x9, s9, fu2, false, HLT.out, by go_num, rfl, hid (by have := HI.out; exact ⟨by omega, this.2.1, this.2.2.1, fun h => by cases h⟩), HO7, HW7, HQ3, HD10, HG10, HJ9, HE10⟩
              case measure =>
                have := HLT.out
                simp [intOf]; omega
          · have d0 : decide (0 ≤ dn) = false := by simpa using g0
            rw [if_neg (by omega)] at hq5
            subst hq5
            clear hI hkk g0
            go_wp2
            go_roundw
            case rel => exact ⟨k + 1, done, x7, x9, s9, fu2, false, HLT.out, by go_num, rfl, hid (by have := HI.out; exact ⟨by omega, this.2.1, this.2.2.1, fun h => by cases h⟩), HO7, HW7, HQ3, HD10, HG10, HJ9, HE10⟩
            case measure =>
              have := HLT.out
              simp [intOf]; omega
        · have be : ((er : Int) == 0) = false := by simp; omega
          rw [if_neg (fun h => her h.1)] at hq5
          subst hq5
          clear hI hkk
          go_wp2
          go_roundw
          case rel => exact ⟨k + 1, done, x7, x9, s9, fu2, false, HLT.out, by go_num, rfl, hid (by have := HI.out; exact ⟨by omega, this.2.1, this.2.2.1, fun h => by cases h⟩), HO7, HW7, HQ3, HD10, HG10, HJ9, HE10⟩
          case measure =>
            have := HLT.out
            simp [intOf]; omega
    · obtain rfl : k = m.length := by omega
      have hle2 : decide ((done : Int) ≤ n0) = true := by have := HI.out; simp; omega
      go_wp2_with fail
      refine (dcrash_any 100 [] none 0 HD.out HE.out.size (Vec.nil _) (fun a h => by cases h) (fun t h => absurd h (by simp)) ((wf_fu HW.out fu dw HI.out.2.2.1 (by have := HI.out; have := HN0.out; omega)).cra 100 []).gd).mono ?_
      rintro e w5 ⟨⟨u, rfl⟩, x5, hD, hF, hL, hg⟩
      have HD5 : Hid (Dk w.heap.size w5 p x5 (crP s 100 [])) := hid hD
      have HG5 := hid (HG.out.fr hF (fun q hq hm => HJ.out q hm hq))
      have HE5 := hid (Ext.below HE.out hL)
      have HJ5 : Hid (∀ q ∈ x5.blk p, q ∉ xb.blk p2) := hid fun q hq hm => by
        rcases hg q hq with h | h
        · exact HJ.out q h hm
        · have := HG.out.lt q hm; omega
      clear hD hF hL hg HD HG HE HJ
      go_wp2_with fail
      refine (dcrash_any 100 [] none 0 HG5.out HE5.out.size (Vec.nil _) (fun a h => by cases h) (fun t h => absurd h (by simp)) (HW.out.cra 100 []).gd).mono ?_
      rintro e w6 ⟨⟨u, rfl⟩, x6, hD, hF, hL, hg⟩
      have HG6 := hid hD
      have HD6 := hid (HD5.out.fr hF (fun q hq hm => HJ5.out q hq hm))
      have HE6 := hid (Ext.below HE5.out hL)
      clear hD hF hL hg HD5 HG5 HE5 HJ5
      obtain ⟨S, hS⟩ : ∃ S, crP s 100 [] = S := ⟨_, rfl⟩
      rw [hS] at HD6 HG6
      clear hS
      go_wp2_with fail
      refine (dNames_any HD6.out).mono ?_
      rintro e w7 ⟨⟨v7, rfl, ho⟩, hE⟩
      obtain ⟨NM, hNM⟩ : ∃ NM, S.dir.map Prod.fst = NM := ⟨_, rfl⟩
      rw [hNM] at ho
      obtain ⟨o7, c7, rfl, -⟩ := ho.vec.open
      have HV7 := hid ho.vec
      have HE7 := hid (HE6.out.trans hE)
      have HD7 := hid (HD6.out.ext hE)
      have HG7 := hid (HG6.out.ext hE)
      have HNM := hid hNM
      clear ho hE hNM HE6 HD6 HG6
      go_wp2_with fail
      refine (dNames_any HG7.out).mono ?_
      rintro e w8 ⟨⟨v8, rfl, ho⟩, hE⟩
      rw [HNM.out] at ho
      obtain ⟨o8, c8, rfl, -⟩ := ho.vec.open
      have HV8 := hid ho.vec
      have HV8a := hid (HV7.out.ext hE)
      have HE8 := hid (HE7.out.trans hE)
      have HD8 := hid (HD7.out.ext hE)
      have HG8 := hid (HG7.out.ext hE)
      clear ho hE HE7 HD7 HG7 HV7
      go_wp2_with fail
      refine (rsames_any _ _ NM NM _ HV8a.out HV8.out).mono ?_
      rintro e w9 ⟨rfl, hE⟩
      have hself : (NM == NM) = true := by simp
      rw [hself]
      have HE9 := hid (HE8.out.trans hE)
      have HD9 := hid (HD8.out.ext hE)
      have HG9 := hid (HG8.out.ext hE)
      clear hE HE8 HD8 HG8 HV8 HV8a hself
      go_wp2_with fail
      refine (dheld_any HD9.out).mono ?_
      rintro e w10 ⟨rfl, hE⟩
      have HE10 := hid (HE9.out.trans hE)
      have HG10 := hid (HG9.out.ext hE)
      obtain ⟨hh, hhe⟩ : ∃ h, held S = h := ⟨_, rfl⟩
      have HHE := hid hhe
      rw [hhe]
      clear hE HE9 HD9 HG9 hhe
      go_wp2_with fail
      refine (dheld_any HG10.out).mono ?_
      rintro e w11 ⟨rfl, hE⟩
      rw [HHE.out]
      have HE11 := hid (HE10.out.trans hE)
      clear hE
      go_wp2
      go_ret
      exact ⟨rfl, HE11.out⟩
end Go.Proofs.Ytkaafllbmeppnaa
