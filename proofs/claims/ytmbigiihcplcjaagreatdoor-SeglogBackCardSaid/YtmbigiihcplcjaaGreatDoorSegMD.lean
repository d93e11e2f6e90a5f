/- The log of segments: Sync.
The log of segments: next, Append. -/
import Derived.Test.YtmbigiihcplcjaaGreatDoorSegMC
set_option linter.unusedSimpArgs false
set_option linter.unusedVariables false
set_option maxRecDepth 100000
namespace Go.Proofs.YtmbigiihcplcjaaGreatDoor
open Go Go.RowKit Go.Tum Go.ChangeMaps Go.Tum.Crc Go.Nam
open Go.ParB (upd Lof)
open Go.ParE (putS slotsR slots Closed)

theorem Lg.turn {B : Nat} {w w' : World} {p b : Nat} {x : DX} {s : PS} {g g' : LG} (h : Lg B w p b x s g) (f : Fr [b] w w') (hb : w'.heap[b]? = some (logO p g')) (hB : B ≤ w.heap.size) : LStp B w p b x s g' w' :=
  ⟨x, ⟨h.dk.fr f (fun q hq hm => h.nb (by rw [List.mem_singleton] at hm; subst hm; exact hq)), hb, h.nb, h.lo⟩, f.mono (fun c hc => by rw [List.mem_singleton] at hc; subst hc; simp), f.below (by simpa using h.lo) hB, fun q hq => .inl hq⟩
theorem LStp.ext0 {B : Nat} {w w1 w2 : World} {p b : Nat} {x : DX} {s s2 : PS} {g g2 : LG} (h : Lg B w p b x s g) (k : Ext w w1) (hB : B ≤ w.heap.size) (h2 : LStp B w1 p b x s2 g2 w2) : LStp B w p b x s2 g2 w2 := by
  obtain ⟨x2, l2, f2, b2, q2⟩ := h2
  exact ⟨x2, l2, (Ext.fr k).trans f2, Below.trans (k.mono hB) b2, fun q hq => (q2 q hq).imp id (Nat.le_trans k.size)⟩
theorem LStp.after {B : Nat} {w w1 w2 : World} {p b : Nat} {x x1 : DX} {s2 : PS} {g2 : LG} (hf : Fr (b :: x.blk p) w w1) (hb : Below B w w1) (hq : ∀ q ∈ x1.blk p, q ∈ x.blk p ∨ w.heap.size ≤ q) (h2 : LStp B w1 p b x1 s2 g2 w2) : LStp B w p b x s2 g2 w2 := by
  obtain ⟨x2, l2, f2, b2, q2⟩ := h2
  refine ⟨x2, l2, ⟨f2.os.trans hf.os, f2.tape.trans hf.tape, f2.output.trans hf.output, Nat.le_trans hf.size f2.size, fun j hj hn => (f2.block j (Nat.lt_of_lt_of_le hj hf.size) fun hm => ?_).trans (hf.block j hj hn)⟩, hb.trans b2, fun c hc => ?_⟩
  · rcases List.mem_cons.1 hm with rfl | hm
    · exact hn (by simp)
    · rcases hq j hm with k | k
      · exact hn (List.mem_cons_of_mem _ k)
      · omega
  · rcases q2 c hc with k | k
    · exact hq c k
    · exact .inr (Nat.le_trans hf.size k)
theorem set125 {w : World} {b : Nat} {v0 v1 v2 v3 v4 v5 : Value} {ty : TypeId} (h : w.heap[b]? = some (.cells #[v0, v1, v2, v3, v4, v5] ty (0, 0))) (u1 u2 u5 : Value) :
    (((w.setCell ⟨b, 1, none⟩ u1).setCell ⟨b, 2, none⟩ u2).setCell ⟨b, 5, none⟩ u5).heap[b]? = some (.cells #[v0, u1, u2, v3, v4, u5] ty (0, 0)) := by
  have h1 := Go.Joins.block_setCell (i := 5) (Go.Joins.block_setCell (i := 2) (Go.Joins.block_setCell (i := 1) h u1) u2) u5
  simpa using h1
theorem fr125 (w : World) (b : Nat) (u1 u2 u5 : Value) : Fr [b] w (((w.setCell ⟨b, 1, none⟩ u1).setCell ⟨b, 2, none⟩ u2).setCell ⟨b, 5, none⟩ u5) := by
  have f : ∀ (w : World) (i : Nat) (u : Value), Fr [b] w (w.setCell ⟨b, i, none⟩ u) := fun w i u => fr_setCell _ _ _ (by simp)
  exact ((f _ 1 u1).trans (f _ 2 u2)).trans (f _ 5 u5)
theorem set45 {w : World} {b : Nat} {v0 v1 v2 v3 v4 v5 : Value} {ty : TypeId} (h : w.heap[b]? = some (.cells #[v0, v1, v2, v3, v4, v5] ty (0, 0))) (u4 u5 : Value) :
    ((w.setCell ⟨b, 4, none⟩ u4).setCell ⟨b, 5, none⟩ u5).heap[b]? = some (.cells #[v0, v1, v2, v3, u4, u5] ty (0, 0)) := by
  have h1 := Go.Joins.block_setCell (i := 5) (Go.Joins.block_setCell (i := 4) h u4) u5
  simpa using h1
theorem fr45 (w : World) (b : Nat) (u4 u5 : Value) : Fr [b] w ((w.setCell ⟨b, 4, none⟩ u4).setCell ⟨b, 5, none⟩ u5) := by
  have f : ∀ (w : World) (i : Nat) (u : Value), Fr [b] w (w.setCell ⟨b, i, none⟩ u) := fun w i u => fr_setCell _ _ _ (by simp)
  exact (f _ 4 u4).trans (f _ 5 u5)
theorem wrap_succ (n : UInt64) : IntKind.u64.wrap ((n.toNat : Int) + 1) = ((n + 1).toNat : Int) := by
  rw [IntKind.wrap_u64, UInt64.toNat_add, show (1 : UInt64).toNat = 1 from rfl]; omega
def NxtR (B : Nat) (w : World) (p b : Nat) (x : DX) (r : Nat × PS × LG) (e : Ending) (w' : World) : Prop := e = .returned (.int .i64 (r.1 : Nat)) ∧ LStp B w p b x r.2.1 r.2.2 w'
set_option maxHeartbeats 1000000 in
theorem snext_any {B : Nat} {w : World} {p b : Nat} {x : DX} {s : PS} {g : LG} (h : Lg B w p b x s g) (hB : B ≤ w.heap.size) (hw : WF s) (hl : s.opn.length ≤ 100000) (hp : Pw w) :
    Calls Tryz.prog 60 #[pv b] w fun e w' => NxtR B w p b x (nextG s g) e w' := by
  have HP := hid hp
  have H := hid h
  have HB := hid hB
  have HL := hid hl
  obtain ⟨R, hR⟩ : ∃ R, nextG s g = R := ⟨_, rfl⟩
  rw [hR]
  unfold nextG at hR
  have HG := hid (hw.cre (segN (g.seg + 1).toNat)).gd
  have HR := hid hR
  obtain ⟨c0, c1, c2, c3, c4, c5, cf⟩ := blk6 h.lg
  have hcv := wrap_succ g.seg
  clear h hB hw hl hp hR
  go_enter Tryz.func60, Tryz.ntmps60
  go_wp2_with fail
  refine Calls.mono (ofM_any (g.seg + 1) w HP.out) ?_
  rintro e w1 ⟨k1, k2, hx⟩
  have HX := hid hx
  clear c0 c1 c2 c3 c4 c5 cf
  by_cases hsg : (g.seg + 1).toNat < 10000000000
  case neg =>
    obtain rfl := k2 (by omega)
    have HQ : Hid (R = (4, s, g)) := hid (by rw [← HR.out, if_pos (by omega)])
    clear k1 k2 hx hsg
    go_wp2
    go_returns
    rw [HQ.out]
    exact ⟨rfl, H.out.same HX.out HB.out⟩
  obtain rfl := k1 hsg
  have HSG := hid hsg
  have HQ := HR
  rw [if_neg (by omega)] at HQ
  obtain ⟨c0, c1, c2, c3, c4, c5, cf⟩ := blk6 (H.out.ext HX.out).lg
  clear k1 k2 hx hsg HR
  go_wp2_with fail
  refine Calls.mono (dcreate_any (segN (g.seg + 1).toNat) (segN_max HSG.out) (H.out.dk.ext HX.out) (Nat.le_trans HB.out HX.out.size) HG.out HL.out) ?_
  rintro e w2 ⟨rfl, hs⟩
  have hs2 := H.out.step (Stp.ext0 H.out.dk HX.out HB.out hs)
  obtain ⟨C, hC⟩ : ∃ C, creP s (segN (g.seg + 1).toNat) = C := ⟨_, rfl⟩
  rw [hC] at hs2 HQ
  try rw [hC]
  obtain ⟨c, s2⟩ := C
  clear hC HG hs c0 c1 c2 c3 c4 c5 cf
  dsimp only at hs2 HQ ⊢
  have HS := hid hs2
  obtain ⟨x2, l2, f2, b2, q2⟩ := hs2
  have HF2 := hid (And.intro f2 (And.intro b2 q2))
  have L2 := hid l2
  obtain ⟨c0, c1, c2, c3, c4, c5, cf⟩ := blk6 l2.lg
  clear f2 b2 q2 l2
  by_cases hc : c = 0
  · subst hc
    have HQ2 : Hid (R = (0, s2, { g with seg := g.seg + 1, at' := 0, beg := true })) := hid (by rw [← HQ.out, if_neg (by simp)])
    clear HQ
    go_wp2
    go_returns
    rw [HQ2.out]
    try rw [show ((g.seg.toNat : Int) + 1) % 18446744073709551616 = ((g.seg + 1).toNat : Int) from by rw [← wrap_succ, IntKind.wrap_u64]]
    refine ⟨rfl, LStp.after HF2.out.1 HF2.out.2.1 HF2.out.2.2 (L2.out.turn (fr125 _ _ _ _ _) (set125 L2.out.lg _ _ _) (Nat.le_trans HB.out HF2.out.1.size))⟩
  · have hc1 : ((c : Int) != 0) = true := by simp; omega
    have HQ2 : Hid (R = (c, s2, g)) := hid (by rw [← HQ.out, if_pos hc])
    clear HQ hc
    go_wp2
    go_returns
    rw [HQ2.out]
    exact ⟨rfl, HS.out⟩
/-- One operation turns the world. -/
def OnQ (W : World) (P : World → Prop) (i : Nat) (_ : Nat → Value) (w' : World) : Prop := (i < 1 → Ext W w') ∧ match i with
  | 1 => P w'
  | _ => True
def AppR (B : Nat) (w : World) (p b : Nat) (x : DX) (A : AG) (e : Ending) (w' : World) : Prop := e = .returned (.tuple #[uv A.seg, uv A.at', .int .i64 (A.e : Nat)]) ∧ LStp B w p b x A.s A.g w'
theorem min_u64 (a b : UInt64) : min (a.toNat : Int) (b.toNat : Int) = ((if b < a then b else a).toNat : Int) := by
  by_cases h : b < a
  · rw [if_pos h]
    rw [UInt64.lt_iff_toNat_lt] at h
    omega
  · rw [if_neg h]
    rw [UInt64.lt_iff_toNat_lt] at h
    omega
/-- The table of powers stands, whatever turns from B on. -/
def PwB (B : Nat) (w : World) : Prop := ∀ w', Below B w w' → Pw w'
theorem PwB.now {B : Nat} {w : World} (h : PwB B w) : Pw w := h w (Below.refl _ _)
theorem PwB.step {B : Nat} {w w1 : World} (h : PwB B w) (k : Below B w w1) : PwB B w1 := fun w' h' => h w' (Below.trans k h')
theorem u64n {n : Nat} (h : n ≤ 411) : (UInt64.ofNat n).toNat = n := by
  rw [UInt64.toNat_ofNat']; omega
set_option maxHeartbeats 2000000 in
theorem sapp_any {B : Nat} {w : World} {p b : Nat} {x : DX} {s : PS} {g : LG} (r : Rc) (v : Value) (h : Lg B w p b x s g) (hv : Vec uv w v r.n) (hB : B ≤ w.heap.size) (hw : WF s) (hl : s.opn.length ≤ 90000) (hp : PwB B w) (ht : Tab w)
    (hgs : g.seg.toNat < 10000000000) (hga : g.at'.toNat ≤ 9000000000000000000) (hgm : 64 ≤ g.most ∧ g.most ≤ 65536) :
    Calls Tryz.prog 28 #[pv b, rv r v] w fun e w' => AppR B w p b x (appG s g r) e w' := by
  obtain ⟨vo, vc, rfl, -⟩ := hv.open
  obtain ⟨vn, hvn⟩ : ∃ k, r.n.length = k := ⟨_, rfl⟩
  rw [hvn] at hv ⊢
  have HV := hid hv
  have HP := hid hp
  have HT := hid ht
  have H := hid h
  have HB := hid hB
  have HL := hid hl
  have HGS0 := hid hgs
  have HGA := hid hga
  have HGM := hid hgm
  have HW := hid hw
  obtain ⟨R, hR⟩ : ∃ R, appG s g r = R := ⟨_, rfl⟩
  rw [hR]
  unfold appG at hR
  have HR := hid hR
  obtain ⟨kind, rn, text⟩ := r
  dsimp only at hv hvn HV
  obtain ⟨W0, hW0⟩ : ∃ W, w.alloc (.cells #[.int .i64 kind, .slice vo vn vc, .string (str text)] 41 (0, 0)) = W := ⟨_, rfl⟩
  have hE0 := Ext.alloc w (.cells #[.int .i64 kind, .slice vo vn vc, .string (str text)] 41 (0, 0))
  have hb0 := heap_alloc_new w (.cells #[.int .i64 kind, .slice vo vn vc, .string (str text)] 41 (0, 0))
  rw [hW0] at hE0 hb0
  have HE0 := hid hE0
  obtain ⟨m0, m1, m2, mf⟩ := lk3 hb0
  clear h hB hw hl hp ht hR hgs hga hgm hv hvn hE0 hb0
  go_enter Tryz.func28, Tryz.ntmps28
  go_wp2_with fail
  clear hW0 m0 m1 m2 mf
  refine Calls.mono (bytes5_any ⟨kind, rn, text⟩ (.slice vo vn vc) W0 (HV.out.ext HE0.out) (HT.out.ext HE0.out)) ?_
  rintro e w1 ⟨y, rfl, hy, hx⟩
  have HX1 := hid (HE0.out.trans hx)
  cases hrb : rightB ⟨kind, rn, text⟩ with
  | false =>
    rw [recBytes_bad hrb]
    have HQ : Hid (R = ⟨1, 0, 0, s, g⟩) := hid (by rw [← HR.out, if_pos hrb])
    clear hy hx hrb
    go_wp2
    go_returns
    rw [HQ.out]
    exact ⟨rfl, H.out.same HX1.out HB.out⟩
  | true =>
    rw [recBytes_ok hrb] at hy ⊢
    rw [if_neg (by rw [hrb]; decide)] at HR
    have hbl := recB_len hrb
    obtain ⟨BB, hBB⟩ : ∃ B, recB ⟨kind, rn, text⟩ = B := ⟨_, rfl⟩
    rw [hBB] at HR hbl
    rw [show fbytes (recFr ⟨kind, rn, text⟩) = BB from hBB] at hy
    obtain ⟨yo, yc, rfl⟩ := row_shape hy
    obtain ⟨n, hn⟩ : ∃ n, BB.length = n := ⟨_, rfl⟩
    rw [hn] at HR hbl
    have hyb := hy.byt
    rw [hn] at hyb ⊢
    have HBY := hid hyb
    have HOW : Hid (w1.ownsRow W0.heap.size 5 1 (.slice yo n yc) n (BB.map bv)) := hid (by have h9 := hy; unfold Own at h9; rw [hn] at h9; exact h9)
    have HW0 : Hid (w.heap.size ≤ W0.heap.size) := hid HE0.out.size
    have HN : Hid (n ≤ 411) := hid hbl.2
    have HBL : Hid (BB.length ≤ 1048576) := hid (by rw [hn]; omega)
    have HNB := hid hn
    clear hy hx hrb hBB hbl hyb hn
    unfold roomG at HR
    have hnw : IntKind.u64.wrap (n : Int) = (n : Int) := by rw [IntKind.wrap_u64]; have := HN.out; omega
    have hmw : IntKind.u64.wrap g.most = g.most := by rw [IntKind.wrap_u64]; have := HGM.out; omega
    have haw : IntKind.u64.wrap ((g.at'.toNat : Int) + (n : Int)) = (g.at'.toNat : Int) + (n : Int) := by rw [IntKind.wrap_u64]; have := HN.out; have := HGA.out; omega
    obtain ⟨ba, hba⟩ : ∃ c, ((g.at'.toNat : Int) != 0) = c := ⟨_, rfl⟩
    obtain ⟨bm, hbm⟩ : ∃ c, decide (g.most < (g.at'.toNat : Int) + (n : Int)) = c := ⟨_, rfl⟩
    have HCND : Hid ((ba = true ∧ bm = true) ↔ (g.at' ≠ 0 ∧ g.most < (g.at'.toNat : Int) + (n : Int))) := hid (by
      rw [← hba, ← hbm]
      simp only [bne_iff_ne, ne_eq, decide_eq_true_eq]
      constructor
      · rintro ⟨a, c⟩
        exact ⟨fun e => a (by rw [e]; rfl), c⟩
      · rintro ⟨a, c⟩
        refine ⟨fun e => a (UInt64.toNat_inj.1 ?_), c⟩
        show g.at'.toNat = 0
        omega)
    obtain ⟨c0, c1, c2, c3, c4, c5, cf⟩ := blk6 (H.out.ext HX1.out).lg
    by_cases hcc : ba = true ∧ bm = true
    · obtain ⟨rfl, rfl⟩ := hcc
      have HQ : Hid ((if (nextG s g).1 ≠ 0 then (⟨(nextG s g).1, 0, 0, (nextG s g).2.1, (nextG s g).2.2⟩ : AG) else putG (nextG s g).2.1 (nextG s g).2.2 BB) = R) := hid (by have h1 := HR.out; rw [if_pos (HCND.out.1 ⟨rfl, rfl⟩)] at h1; exact h1)
      go_wp2_with fail
      go_quiet (fail)
      go_wp2_with fail
      clear hnw hmw haw hba hbm c0 c1 c2 c3 c4 c5 cf
      have HXQ : Hid (Ext w (w1.drewN nq)) := hid (HX1.out.trans (Ext.drewN _ _))
      refine Calls.mono (snext_any (H.out.ext HXQ.out) (Nat.le_trans HB.out HXQ.out.size) HW.out (by have := HL.out; omega) (HP.out _ (HXQ.out.mono HB.out))) ?_
      rintro e w2 ⟨rfl, hs⟩
      have hwk := wf_next HW.out g
      have hgn : (nextG s g).2.2.at'.toNat ≤ 9000000000000000000 ∧ (nextG s g).2.2.seg.toNat < 10000000000 := by
        have h1 := HGA.out
        have h2 := HGS0.out
        unfold nextG
        split
        · exact ⟨h1, h2⟩
        · split
          · exact ⟨h1, h2⟩
          · refine ⟨by show (0 : UInt64).toNat ≤ _; decide, ?_⟩
            show (g.seg + 1).toNat < _
            omega
      obtain ⟨C, hC⟩ : ∃ C, nextG s g = C := ⟨_, rfl⟩
      rw [hC] at hs HQ hwk hgn
      try rw [hC]
      obtain ⟨c, sk, gk⟩ := C
      clear hC
      dsimp only at hs HQ hwk hgn ⊢
      have hs2 := LStp.ext0 H.out HXQ.out HB.out hs
      have HS := hid hs2
      have HWK := hid hwk
      have HGS : Hid (gk.seg.toNat < 10000000000) := hid hgn.2
      obtain ⟨x2, l2, f2, b2, q2⟩ := hs2
      have HF2 := hid (And.intro f2 (And.intro b2 q2))
      have L2 := hid l2
      have HBYK : Hid (Byt w2 (.slice yo n yc) BB) := hid (by
        obtain ⟨x3, -, f3, -, -⟩ := hs
        have h1 := ownsRow_fr (Ext.owns (Ext.drewN _ nq) HOW.out) f3 (fun q hq hm => by
          have h2 := row_lo HOW.out q hq
          have h3 := HW0.out
          rcases List.mem_cons.1 hm with rfl | hm
          · have := (Array.getElem?_eq_some_iff.1 H.out.lg).1; omega
          · have := H.out.dk.lt15 q hm; omega)
        exact Own.byt (l := BB) (by unfold Own; rw [HNB.out]; exact h1))
      have HEK : Hid (Below B w w2) := hid b2
      have HBK : Hid (B ≤ w2.heap.size) := hid (Nat.le_trans HB.out f2.size)
      clear hwk hgn f2 b2 q2 l2 hs
      by_cases hc : c = 0
      case neg =>
        have hc1 : ((c : Int) != 0) = true := by simp; omega
        have HQ2 : Hid (R = ⟨c, 0, 0, sk, gk⟩) := hid (by rw [← HQ.out, if_pos hc])
        clear HQ hc HR
        go_wp2
        go_returns
        rw [HQ2.out]
        exact ⟨rfl, HS.out⟩
      subst hc
      rw [if_neg (by simp)] at HQ
      unfold putG at HQ
      rw [HNB.out] at HQ
      clear HR
      obtain ⟨c0, c1, c2, c3, c4, c5, cf⟩ := blk6 L2.out.lg
      go_wp2_with fail
      refine Calls.mono (ofM_any gk.seg _ (HP.out _ HEK.out)) ?_
      rintro e w5 ⟨k1, -, hx⟩
      obtain rfl := k1 HGS.out
      have HX5 := hid hx
      have L5 := hid (L2.out.ext hx)
      clear k1 hx c0 c1 c2 c3 c4 c5 cf
      obtain ⟨c0, c1, c2, c3, c4, c5, cf⟩ := blk6 L5.out.lg
      go_wp2_with fail
      refine Calls.mono (dappend_any (segN gk.seg.toNat) BB _ (segN_max HGS.out) (HBYK.out.ext HX5.out) HBL.out L5.out.dk (Nat.le_trans HBK.out HX5.out.size) (HWK.out.app _ _).gd) ?_
      rintro e w6 ⟨rfl, hs⟩
      have hs2 := L5.out.step hs
      obtain ⟨C, hC⟩ : ∃ C, appP sk (segN gk.seg.toNat) BB = C := ⟨_, rfl⟩
      have HQ2 := HQ
      rw [hC] at hs2 HQ2
      try rw [hC]
      obtain ⟨c, s6⟩ := C
      clear hC hs c0 c1 c2 c3 c4 c5 cf HQ
      dsimp only at hs2 HQ2 ⊢
      have hs3 := LStp.after HF2.out.1 HF2.out.2.1 HF2.out.2.2 (LStp.ext0 L2.out HX5.out HBK.out hs2)
      have HS6 := hid hs3
      obtain ⟨x6, l6, f6, b6, q6⟩ := hs3
      have HF6 := hid (And.intro f6 (And.intro b6 q6))
      have L6 := hid l6
      clear f6 b6 q6 l6 hs2
      obtain ⟨c0, c1, c2, c3, c4, c5, cf⟩ := blk6 L6.out.lg
      by_cases hc : c = 0
      case neg =>
        have hc1 : ((c : Int) != 0) = true := by simp; omega
        have HQ3 : Hid (R = ⟨c, 0, 0, s6, gk⟩) := hid (by rw [← HQ2.out, if_pos hc])
        clear HQ2 hc
        go_wp2
        go_returns
        rw [HQ3.out]
        exact ⟨rfl, HS6.out⟩
      subst hc
      obtain ⟨gf, hgf⟩ : ∃ G : LG, ({ gk with at' := gk.at' + UInt64.ofNat n, uns := if gk.seg < gk.uns then gk.seg else gk.uns } : LG) = G := ⟨_, rfl⟩
      obtain ⟨g2, hg2⟩ : ∃ G : LG, ({ gk with at' := gk.at' + UInt64.ofNat n } : LG) = G := ⟨_, rfl⟩
      have HQ3 : Hid (R = ⟨0, gk.seg, gk.at', s6, gf⟩) := hid (by rw [← HQ2.out, if_neg (by simp), ← hgf])
      have hwa : IntKind.u64.wrap ((gk.at'.toNat : Int) + (n : Int)) = (g2.at'.toNat : Int) := by
        rw [← hg2]
        show _ = ((gk.at' + UInt64.ofNat n).toNat : Int)
        rw [IntKind.wrap_u64, UInt64.toNat_add, u64n HN.out]
        omega
      have hnw : IntKind.u64.wrap (n : Int) = (n : Int) := by rw [IntKind.wrap_u64]; have := HN.out; omega
      have HG2 : Hid (g2.seg = gk.seg ∧ g2.uns = gk.uns ∧ gf = { g2 with uns := if gk.seg < gk.uns then gk.seg else gk.uns }) := hid (by subst hg2; exact ⟨rfl, rfl, hgf.symm⟩)
      have hb7 : (w6.setCell ⟨b, 2, none⟩ (uv g2.at')).heap[b]? = some (logO p g2) := by
        have := Go.Joins.block_setCell (i := 2) L6.out.lg (uv g2.at')
        subst hg2
        simpa using this
      have hf7 : Fr [b] w6 (w6.setCell ⟨b, 2, none⟩ (uv g2.at')) := fr_setCell _ _ _ (by simp)
      have HB7 := hid hb7
      have HF7 := hid hf7
      clear HQ2 hgf hg2 hb7 hf7
      obtain ⟨W, hW⟩ : ∃ W, w6.setCell ⟨b, 2, none⟩ (uv g2.at') = W := ⟨_, rfl⟩
      rw [hW] at HB7 HF7
      go_wp2_with fail
      try rw [hW]
      clear hW hwa hnw c0 c1 c2 c3 c4 c5 cf
      obtain ⟨d0, d1, d2, d3, d4, d5, df⟩ := blk6 HB7.out
      have hmin := min_u64 gk.uns gk.seg
      rw [HG2.out.1] at d1
      rw [HG2.out.2.1] at d4
      have HD := hid (And.intro d1 (And.intro d4 (df 4)))
      obtain ⟨un, hun⟩ : ∃ u, (if gk.seg < gk.uns then gk.seg else gk.uns) = u := ⟨_, rfl⟩
      rw [hun] at hmin HG2
      clear hun d0 d1 d2 d3 d4 d5 df
      refine ParE.wp_region_e (l := [_, _, _, _, _, _, _, _, _, _, _, _, _]) rfl (Rg.Ch [12] [] (OnQ W fun w' => Fr [b] W w' ∧ w'.heap[b]? = some (logO p gf))) (ParC.VC [ParC.EQ (pv b), ParC.EQ (pv b), ParC.EQ (pv b), ParC.EQ (Value.pointer (some ⟨b, 4, none⟩)), ParC.EQ (uv gk.uns), ParC.EQ (pv b), ParC.EQ (pv b), ParC.EQ (Value.pointer (some ⟨b, 1, none⟩)), ParC.EQ (uv gk.seg), ParC.EQ (uv un), ParC.EQ (pv b), ParC.EQ (Value.pointer (some ⟨b, 4, none⟩)), fun _ => True]) (by kernel_rfl) (by kernel_rfl) (Rg.Ch.start ⟨fun _ => Ext.draw _, trivial⟩) ?_ ?_
      · refine ⟨fun L ρ w' hR hC hL hd hk => ?_, ?_⟩
        · exact Par.val_of_run rfl ⟨hR.other (by decide), hk.1⟩
        refine ⟨fun L ρ w' hR hC hL hd hk => ?_, ?_⟩
        · exact Par.val_of_run rfl ⟨hR.other (by decide), hk.1⟩
        refine ⟨fun L ρ w' hR hC hL hd hk => ?_, ?_⟩
        · obtain ⟨k0, -⟩ := hk
          have e0 : ρ (.tmp 81) = pv b := k0
          clear k0
          refine Par.val_k fun K hK => ?_
          unfold Par.val
          (go_simp; exact hK _ _ ⟨hR.other (by decide), rfl⟩)
        refine ⟨fun L ρ w' hR hC hL hd hk => ?_, ?_⟩
        · obtain ⟨k0, -⟩ := hk
          have e0 : ρ (.tmp 82) = pv b := k0
          clear k0
          refine Par.val_k fun K hK => ?_
          unfold Par.val
          (go_simp; exact hK _ _ ⟨hR.other (by decide), rfl⟩)
        refine ⟨fun L ρ w' hR hC hL hd hk => ?_, ?_⟩
        · obtain ⟨k0, -⟩ := hk
          have e0 : ρ (.tmp 83) = Value.pointer (some ⟨b, 4, none⟩) := k0
          clear k0
          refine Par.val_k fun K hK => ?_
          unfold Par.val
          (obtain ⟨i, hi, hq⟩ := hR.some 0 rfl (hC.notyet 12 4 hL (by kernel_rfl)); have cc := (hq.1 (by omega)).cell HD.out.2.1; go_simp; exact hK _ _ ⟨hR.other (by decide), rfl⟩)
        refine ⟨fun L ρ w' hR hC hL hd hk => ?_, ?_⟩
        · exact Par.val_of_run rfl ⟨hR.other (by decide), hk.1⟩
        refine ⟨fun L ρ w' hR hC hL hd hk => ?_, ?_⟩
        · obtain ⟨k0, -⟩ := hk
          have e0 : ρ (.tmp 85) = pv b := k0
          clear k0
          refine Par.val_k fun K hK => ?_
          unfold Par.val
          (go_simp; exact hK _ _ ⟨hR.other (by decide), rfl⟩)
        refine ⟨fun L ρ w' hR hC hL hd hk => ?_, ?_⟩
        · obtain ⟨k0, -⟩ := hk
          have e0 : ρ (.tmp 86) = pv b := k0
          clear k0
          refine Par.val_k fun K hK => ?_
          unfold Par.val
          (go_simp; exact hK _ _ ⟨hR.other (by decide), rfl⟩)
        refine ⟨fun L ρ w' hR hC hL hd hk => ?_, ?_⟩
        · obtain ⟨k0, -⟩ := hk
          have e0 : ρ (.tmp 87) = Value.pointer (some ⟨b, 1, none⟩) := k0
          clear k0
          refine Par.val_k fun K hK => ?_
          unfold Par.val
          (obtain ⟨i, hi, hq⟩ := hR.some 0 rfl (hC.notyet 12 8 hL (by kernel_rfl)); have cc := (hq.1 (by omega)).cell HD.out.1; go_simp; exact hK _ _ ⟨hR.other (by decide), rfl⟩)
        refine ⟨fun L ρ w' hR hC hL hd hk => ?_, ?_⟩
        · obtain ⟨k0, k1, -⟩ := hk
          have e0 : ρ (.tmp 84) = uv gk.uns := k0
          have e1 : ρ (.tmp 88) = uv gk.seg := k1
          clear k0 k1
          refine Par.val_k fun K hK => ?_
          unfold Par.val
          (go_simp; exact hK _ _ ⟨hR.other (by decide), rfl⟩)
        refine ⟨fun L ρ w' hR hC hL hd hk => ?_, ?_⟩
        · obtain ⟨k0, -⟩ := hk
          have e0 : ρ (.tmp 80) = pv b := k0
          clear k0
          refine Par.val_k fun K hK => ?_
          unfold Par.val
          (go_simp; exact hK _ _ ⟨hR.other (by decide), rfl⟩)
        refine ⟨fun L ρ w' hR hC hL hd hk => ?_, ?_⟩
        · obtain ⟨k0, -⟩ := hk
          have e0 : ρ (.tmp 90) = pv b := k0
          clear k0
          refine Par.val_k fun K hK => ?_
          unfold Par.val
          (go_simp; exact hK _ _ ⟨hR.other (by decide), rfl⟩)
        refine ⟨fun L ρ w' hR hC hL hd hk => ?_, ?_⟩
        · obtain ⟨k0, k1, -⟩ := hk
          have e0 : ρ (.tmp 91) = Value.pointer (some ⟨b, 4, none⟩) := k0
          have e1 : ρ (.tmp 89) = uv un := k1
          clear k0 k1
          refine Par.val_k fun K hK => ?_
          unfold Par.val
          (obtain ⟨hq, hs⟩ := hR.go 0 rfl hL (.inl rfl) (by decide); have hx := hq.1 (by decide); have hbx := hx.obj HB7.out; obtain ⟨-, -, -, -, m4, -, mf⟩ := blk6 hbx; have mf4 := mf 4; have HB9 := hid hbx; have HX9 := hid hx; clear hbx hx; go_simp; exact hK _ _ ⟨hs none _ _ ⟨fun h => absurd h (by decide), (Ext.fr HX9.out).trans (fr_setCell _ _ _ (by simp)), by have h9 := Go.Joins.block_setCell (i := 4) HB9.out (uv un); rw [HG2.out.2.2]; simpa using h9⟩, trivial⟩)
        trivial
      intro a' w' inv hR
      have q80 : a'.tmps.getD 80 undef = pv b := inv.done 0 _ 80 rfl rfl rfl
      have q81 : a'.tmps.getD 81 undef = pv b := inv.done 1 _ 81 rfl rfl rfl
      have q82 : a'.tmps.getD 82 undef = pv b := inv.done 2 _ 82 rfl rfl rfl
      have q83 : a'.tmps.getD 83 undef = Value.pointer (some ⟨b, 4, none⟩) := inv.done 3 _ 83 rfl rfl rfl
      have q84 : a'.tmps.getD 84 undef = uv gk.uns := inv.done 4 _ 84 rfl rfl rfl
      have q85 : a'.tmps.getD 85 undef = pv b := inv.done 5 _ 85 rfl rfl rfl
      have q86 : a'.tmps.getD 86 undef = pv b := inv.done 6 _ 86 rfl rfl rfl
      have q87 : a'.tmps.getD 87 undef = Value.pointer (some ⟨b, 1, none⟩) := inv.done 7 _ 87 rfl rfl rfl
      have q88 : a'.tmps.getD 88 undef = uv gk.seg := inv.done 8 _ 88 rfl rfl rfl
      have q89 : a'.tmps.getD 89 undef = uv un := inv.done 9 _ 89 rfl rfl rfl
      have q90 : a'.tmps.getD 90 undef = pv b := inv.done 10 _ 90 rfl rfl rfl
      have q91 : a'.tmps.getD 91 undef = Value.pointer (some ⟨b, 4, none⟩) := inv.done 11 _ 91 rfl rfl rfl
      clear inv
      simp only [List.filterMap_cons, List.filterMap_nil, Par.putAll, Act.put, List.setIfInBounds_toArray, List.set_cons_succ, List.set_cons_zero, q80, q81, q82, q83, q84, q85, q86, q87, q88, q89, q90, q91]
      clear q80 q81 q82 q83 q84 q85 q86 q87 q88 q89 q90 q91
      obtain ⟨-, hf8, hb8⟩ := Rg.Ch.fin hR (by decide) 1 rfl; have HF8 := hid hf8; have HB8 := hid hb8; clear hf8 hb8 hR
      try clear a'
      obtain ⟨-, d1, -, -, -, -, -⟩ := blk6 HB8.out
      have hgs : gf.seg = gk.seg := by rw [HG2.out.2.2]; exact HG2.out.1
      rw [hgs] at d1
      clear hmin hgs
      go_wp2
      go_returns
      rw [HQ3.out]
      exact ⟨rfl, LStp.after HF6.out.1 HF6.out.2.1 HF6.out.2.2 (L6.out.turn (HF7.out.trans HF8.out) HB8.out (Nat.le_trans HB.out HF6.out.1.size))⟩
    · have HQ : Hid (putG s g BB = R) := hid (by have h1 := HR.out; rw [if_neg (fun k => hcc (HCND.out.2 k))] at h1; simpa using h1)
      unfold putG at HQ
      rw [HNB.out] at HQ
      obtain ⟨gk, hgk⟩ : ∃ G, g = G := ⟨_, rfl⟩
      obtain ⟨sk, hsk⟩ : ∃ S, s = S := ⟨_, rfl⟩
      rw [hgk, hsk] at HQ
      have HFA : ∀ w', Ext w1 w' → Hid (Lg B w' p b x sk gk) ∧ Hid (Fr (b :: x.blk p) w w' ∧ Below B w w' ∧ ∀ q ∈ x.blk p, q ∈ x.blk p ∨ w.heap.size ≤ q) ∧ Hid (Byt w' (.slice yo n yc) BB) := fun w' hx' => ⟨hid (by rw [← hgk, ← hsk]; exact H.out.ext (HX1.out.trans hx')), hid ⟨Ext.fr (HX1.out.trans hx'), (HX1.out.trans hx').mono HB.out, fun q hq => .inl hq⟩, hid (HBY.out.ext hx')⟩
      have HFA2 := hid HFA
      have HWK : Hid (WF sk) := hid (by rw [← hsk]; exact HW.out)
      have HGS : Hid (gk.seg.toNat < 10000000000) := hid (by rw [← hgk]; exact HGS0.out)
      clear hgk hsk HFA
      have hgo : ∀ Q : Prop, (ba = false → Q) → (ba = true → bm = false → Q) → Q := fun Q h1 h2 => by
        cases ba
        · exact h1 rfl
        · cases bm
          · exact h2 rfl rfl
          · exact absurd ⟨rfl, rfl⟩ hcc
      clear hcc
      cases ba
      · go_wp2_with fail
        go_quiet (fail)
        clear hnw hmw haw hba hbm c0 c1 c2 c3 c4 c5 cf hgo
        obtain ⟨L2, HF2, HBYK⟩ := HFA2.out _ (Ext.drewN w1 nq)
        have HEK := hid HF2.out.2.1
        have HBK := hid (Nat.le_trans HB.out HF2.out.1.size)
        clear HR
        obtain ⟨c0, c1, c2, c3, c4, c5, cf⟩ := blk6 L2.out.lg
        go_wp2_with fail
        refine Calls.mono (ofM_any gk.seg _ (HP.out _ HEK.out)) ?_
        rintro e w5 ⟨k1, -, hx⟩
        obtain rfl := k1 HGS.out
        have HX5 := hid hx
        have L5 := hid (L2.out.ext hx)
        clear k1 hx c0 c1 c2 c3 c4 c5 cf
        obtain ⟨c0, c1, c2, c3, c4, c5, cf⟩ := blk6 L5.out.lg
        go_wp2_with fail
        refine Calls.mono (dappend_any (segN gk.seg.toNat) BB _ (segN_max HGS.out) (HBYK.out.ext HX5.out) HBL.out L5.out.dk (Nat.le_trans HBK.out HX5.out.size) (HWK.out.app _ _).gd) ?_
        rintro e w6 ⟨rfl, hs⟩
        have hs2 := L5.out.step hs
        obtain ⟨C, hC⟩ : ∃ C, appP sk (segN gk.seg.toNat) BB = C := ⟨_, rfl⟩
        have HQ2 := HQ
        rw [hC] at hs2 HQ2
        try rw [hC]
        obtain ⟨c, s6⟩ := C
        clear hC hs c0 c1 c2 c3 c4 c5 cf HQ
        dsimp only at hs2 HQ2 ⊢
        have hs3 := LStp.after HF2.out.1 HF2.out.2.1 HF2.out.2.2 (LStp.ext0 L2.out HX5.out HBK.out hs2)
        have HS6 := hid hs3
        obtain ⟨x6, l6, f6, b6, q6⟩ := hs3
        have HF6 := hid (And.intro f6 (And.intro b6 q6))
        have L6 := hid l6
        clear f6 b6 q6 l6 hs2
        obtain ⟨c0, c1, c2, c3, c4, c5, cf⟩ := blk6 L6.out.lg
        by_cases hc : c = 0
        case neg =>
          have hc1 : ((c : Int) != 0) = true := by simp; omega
          have HQ3 : Hid (R = ⟨c, 0, 0, s6, gk⟩) := hid (by rw [← HQ2.out, if_pos hc])
          clear HQ2 hc
          go_wp2
          go_returns
          rw [HQ3.out]
          exact ⟨rfl, HS6.out⟩
        subst hc
        obtain ⟨gf, hgf⟩ : ∃ G : LG, ({ gk with at' := gk.at' + UInt64.ofNat n, uns := if gk.seg < gk.uns then gk.seg else gk.uns } : LG) = G := ⟨_, rfl⟩
        obtain ⟨g2, hg2⟩ : ∃ G : LG, ({ gk with at' := gk.at' + UInt64.ofNat n } : LG) = G := ⟨_, rfl⟩
        have HQ3 : Hid (R = ⟨0, gk.seg, gk.at', s6, gf⟩) := hid (by rw [← HQ2.out, if_neg (by simp), ← hgf])
        have hwa : IntKind.u64.wrap ((gk.at'.toNat : Int) + (n : Int)) = (g2.at'.toNat : Int) := by
          rw [← hg2]
          show _ = ((gk.at' + UInt64.ofNat n).toNat : Int)
          rw [IntKind.wrap_u64, UInt64.toNat_add, u64n HN.out]
          omega
        have hnw : IntKind.u64.wrap (n : Int) = (n : Int) := by rw [IntKind.wrap_u64]; have := HN.out; omega
        have HG2 : Hid (g2.seg = gk.seg ∧ g2.uns = gk.uns ∧ gf = { g2 with uns := if gk.seg < gk.uns then gk.seg else gk.uns }) := hid (by subst hg2; exact ⟨rfl, rfl, hgf.symm⟩)
        have hb7 : (w6.setCell ⟨b, 2, none⟩ (uv g2.at')).heap[b]? = some (logO p g2) := by
          have := Go.Joins.block_setCell (i := 2) L6.out.lg (uv g2.at')
          subst hg2
          simpa using this
        have hf7 : Fr [b] w6 (w6.setCell ⟨b, 2, none⟩ (uv g2.at')) := fr_setCell _ _ _ (by simp)
        have HB7 := hid hb7
        have HF7 := hid hf7
        clear HQ2 hgf hg2 hb7 hf7
        obtain ⟨W, hW⟩ : ∃ W, w6.setCell ⟨b, 2, none⟩ (uv g2.at') = W := ⟨_, rfl⟩
        rw [hW] at HB7 HF7
        go_wp2_with fail
        try rw [hW]
        clear hW hwa hnw c0 c1 c2 c3 c4 c5 cf
        obtain ⟨d0, d1, d2, d3, d4, d5, df⟩ := blk6 HB7.out
        have hmin := min_u64 gk.uns gk.seg
        rw [HG2.out.1] at d1
        rw [HG2.out.2.1] at d4
        have HD := hid (And.intro d1 (And.intro d4 (df 4)))
        obtain ⟨un, hun⟩ : ∃ u, (if gk.seg < gk.uns then gk.seg else gk.uns) = u := ⟨_, rfl⟩
        rw [hun] at hmin HG2
        clear hun d0 d1 d2 d3 d4 d5 df
        refine ParE.wp_region_e (l := [_, _, _, _, _, _, _, _, _, _, _, _, _]) rfl (Rg.Ch [12] [] (OnQ W fun w' => Fr [b] W w' ∧ w'.heap[b]? = some (logO p gf))) (ParC.VC [ParC.EQ (pv b), ParC.EQ (pv b), ParC.EQ (pv b), ParC.EQ (Value.pointer (some ⟨b, 4, none⟩)), ParC.EQ (uv gk.uns), ParC.EQ (pv b), ParC.EQ (pv b), ParC.EQ (Value.pointer (some ⟨b, 1, none⟩)), ParC.EQ (uv gk.seg), ParC.EQ (uv un), ParC.EQ (pv b), ParC.EQ (Value.pointer (some ⟨b, 4, none⟩)), fun _ => True]) (by kernel_rfl) (by kernel_rfl) (Rg.Ch.start ⟨fun _ => Ext.draw _, trivial⟩) ?_ ?_
        · refine ⟨fun L ρ w' hR hC hL hd hk => ?_, ?_⟩
          · exact Par.val_of_run rfl ⟨hR.other (by decide), hk.1⟩
          refine ⟨fun L ρ w' hR hC hL hd hk => ?_, ?_⟩
          · exact Par.val_of_run rfl ⟨hR.other (by decide), hk.1⟩
          refine ⟨fun L ρ w' hR hC hL hd hk => ?_, ?_⟩
          · obtain ⟨k0, -⟩ := hk
            have e0 : ρ (.tmp 81) = pv b := k0
            clear k0
            refine Par.val_k fun K hK => ?_
            unfold Par.val
            (go_simp; exact hK _ _ ⟨hR.other (by decide), rfl⟩)
          refine ⟨fun L ρ w' hR hC hL hd hk => ?_, ?_⟩
          · obtain ⟨k0, -⟩ := hk
            have e0 : ρ (.tmp 82) = pv b := k0
            clear k0
            refine Par.val_k fun K hK => ?_
            unfold Par.val
            (go_simp; exact hK _ _ ⟨hR.other (by decide), rfl⟩)
          refine ⟨fun L ρ w' hR hC hL hd hk => ?_, ?_⟩
          · obtain ⟨k0, -⟩ := hk
            have e0 : ρ (.tmp 83) = Value.pointer (some ⟨b, 4, none⟩) := k0
            clear k0
            refine Par.val_k fun K hK => ?_
            unfold Par.val
            (obtain ⟨i, hi, hq⟩ := hR.some 0 rfl (hC.notyet 12 4 hL (by kernel_rfl)); have cc := (hq.1 (by omega)).cell HD.out.2.1; go_simp; exact hK _ _ ⟨hR.other (by decide), rfl⟩)
          refine ⟨fun L ρ w' hR hC hL hd hk => ?_, ?_⟩
          · exact Par.val_of_run rfl ⟨hR.other (by decide), hk.1⟩
          refine ⟨fun L ρ w' hR hC hL hd hk => ?_, ?_⟩
          · obtain ⟨k0, -⟩ := hk
            have e0 : ρ (.tmp 85) = pv b := k0
            clear k0
            refine Par.val_k fun K hK => ?_
            unfold Par.val
            (go_simp; exact hK _ _ ⟨hR.other (by decide), rfl⟩)
          refine ⟨fun L ρ w' hR hC hL hd hk => ?_, ?_⟩
          · obtain ⟨k0, -⟩ := hk
            have e0 : ρ (.tmp 86) = pv b := k0
            clear k0
            refine Par.val_k fun K hK => ?_
            unfold Par.val
            (go_simp; exact hK _ _ ⟨hR.other (by decide), rfl⟩)
          refine ⟨fun L ρ w' hR hC hL hd hk => ?_, ?_⟩
          · obtain ⟨k0, -⟩ := hk
            have e0 : ρ (.tmp 87) = Value.pointer (some ⟨b, 1, none⟩) := k0
            clear k0
            refine Par.val_k fun K hK => ?_
            unfold Par.val
            (obtain ⟨i, hi, hq⟩ := hR.some 0 rfl (hC.notyet 12 8 hL (by kernel_rfl)); have cc := (hq.1 (by omega)).cell HD.out.1; go_simp; exact hK _ _ ⟨hR.other (by decide), rfl⟩)
          refine ⟨fun L ρ w' hR hC hL hd hk => ?_, ?_⟩
          · obtain ⟨k0, k1, -⟩ := hk
            have e0 : ρ (.tmp 84) = uv gk.uns := k0
            have e1 : ρ (.tmp 88) = uv gk.seg := k1
            clear k0 k1
            refine Par.val_k fun K hK => ?_
            unfold Par.val
            (go_simp; exact hK _ _ ⟨hR.other (by decide), rfl⟩)
          refine ⟨fun L ρ w' hR hC hL hd hk => ?_, ?_⟩
          · obtain ⟨k0, -⟩ := hk
            have e0 : ρ (.tmp 80) = pv b := k0
            clear k0
            refine Par.val_k fun K hK => ?_
            unfold Par.val
            (go_simp; exact hK _ _ ⟨hR.other (by decide), rfl⟩)
          refine ⟨fun L ρ w' hR hC hL hd hk => ?_, ?_⟩
          · obtain ⟨k0, -⟩ := hk
            have e0 : ρ (.tmp 90) = pv b := k0
            clear k0
            refine Par.val_k fun K hK => ?_
            unfold Par.val
            (go_simp; exact hK _ _ ⟨hR.other (by decide), rfl⟩)
          refine ⟨fun L ρ w' hR hC hL hd hk => ?_, ?_⟩
          · obtain ⟨k0, k1, -⟩ := hk
            have e0 : ρ (.tmp 91) = Value.pointer (some ⟨b, 4, none⟩) := k0
            have e1 : ρ (.tmp 89) = uv un := k1
            clear k0 k1
            refine Par.val_k fun K hK => ?_
            unfold Par.val
            (obtain ⟨hq, hs⟩ := hR.go 0 rfl hL (.inl rfl) (by decide); have hx := hq.1 (by decide); have hbx := hx.obj HB7.out; obtain ⟨-, -, -, -, m4, -, mf⟩ := blk6 hbx; have mf4 := mf 4; have HB9 := hid hbx; have HX9 := hid hx; clear hbx hx; go_simp; exact hK _ _ ⟨hs none _ _ ⟨fun h => absurd h (by decide), (Ext.fr HX9.out).trans (fr_setCell _ _ _ (by simp)), by have h9 := Go.Joins.block_setCell (i := 4) HB9.out (uv un); rw [HG2.out.2.2]; simpa using h9⟩, trivial⟩)
          trivial
        intro a' w' inv hR
        have q80 : a'.tmps.getD 80 undef = pv b := inv.done 0 _ 80 rfl rfl rfl
        have q81 : a'.tmps.getD 81 undef = pv b := inv.done 1 _ 81 rfl rfl rfl
        have q82 : a'.tmps.getD 82 undef = pv b := inv.done 2 _ 82 rfl rfl rfl
        have q83 : a'.tmps.getD 83 undef = Value.pointer (some ⟨b, 4, none⟩) := inv.done 3 _ 83 rfl rfl rfl
        have q84 : a'.tmps.getD 84 undef = uv gk.uns := inv.done 4 _ 84 rfl rfl rfl
        have q85 : a'.tmps.getD 85 undef = pv b := inv.done 5 _ 85 rfl rfl rfl
        have q86 : a'.tmps.getD 86 undef = pv b := inv.done 6 _ 86 rfl rfl rfl
        have q87 : a'.tmps.getD 87 undef = Value.pointer (some ⟨b, 1, none⟩) := inv.done 7 _ 87 rfl rfl rfl
        have q88 : a'.tmps.getD 88 undef = uv gk.seg := inv.done 8 _ 88 rfl rfl rfl
        have q89 : a'.tmps.getD 89 undef = uv un := inv.done 9 _ 89 rfl rfl rfl
        have q90 : a'.tmps.getD 90 undef = pv b := inv.done 10 _ 90 rfl rfl rfl
        have q91 : a'.tmps.getD 91 undef = Value.pointer (some ⟨b, 4, none⟩) := inv.done 11 _ 91 rfl rfl rfl
        clear inv
        simp only [List.filterMap_cons, List.filterMap_nil, Par.putAll, Act.put, List.setIfInBounds_toArray, List.set_cons_succ, List.set_cons_zero, q80, q81, q82, q83, q84, q85, q86, q87, q88, q89, q90, q91]
        clear q80 q81 q82 q83 q84 q85 q86 q87 q88 q89 q90 q91
        obtain ⟨-, hf8, hb8⟩ := Rg.Ch.fin hR (by decide) 1 rfl; have HF8 := hid hf8; have HB8 := hid hb8; clear hf8 hb8 hR
        try clear a'
        obtain ⟨-, d1, -, -, -, -, -⟩ := blk6 HB8.out
        have hgs : gf.seg = gk.seg := by rw [HG2.out.2.2]; exact HG2.out.1
        rw [hgs] at d1
        clear hmin hgs
        go_wp2
        go_returns
        rw [HQ3.out]
        exact ⟨rfl, LStp.after HF6.out.1 HF6.out.2.1 HF6.out.2.2 (L6.out.turn (HF7.out.trans HF8.out) HB8.out (Nat.le_trans HB.out HF6.out.1.size))⟩
      · cases bm
        · go_wp2_with fail
          go_quiet (fail)
          clear hnw hmw haw hba hbm c0 c1 c2 c3 c4 c5 cf hgo
          obtain ⟨L2, HF2, HBYK⟩ := HFA2.out _ (Ext.drewN w1 nq)
          have HEK := hid HF2.out.2.1
          have HBK := hid (Nat.le_trans HB.out HF2.out.1.size)
          clear HR
          obtain ⟨c0, c1, c2, c3, c4, c5, cf⟩ := blk6 L2.out.lg
          go_wp2_with fail
          refine Calls.mono (ofM_any gk.seg _ (HP.out _ HEK.out)) ?_
          rintro e w5 ⟨k1, -, hx⟩
          obtain rfl := k1 HGS.out
          have HX5 := hid hx
          have L5 := hid (L2.out.ext hx)
          clear k1 hx c0 c1 c2 c3 c4 c5 cf
          obtain ⟨c0, c1, c2, c3, c4, c5, cf⟩ := blk6 L5.out.lg
          go_wp2_with fail
          refine Calls.mono (dappend_any (segN gk.seg.toNat) BB _ (segN_max HGS.out) (HBYK.out.ext HX5.out) HBL.out L5.out.dk (Nat.le_trans HBK.out HX5.out.size) (HWK.out.app _ _).gd) ?_
          rintro e w6 ⟨rfl, hs⟩
          have hs2 := L5.out.step hs
          obtain ⟨C, hC⟩ : ∃ C, appP sk (segN gk.seg.toNat) BB = C := ⟨_, rfl⟩
          have HQ2 := HQ
          rw [hC] at hs2 HQ2
          try rw [hC]
          obtain ⟨c, s6⟩ := C
          clear hC hs c0 c1 c2 c3 c4 c5 cf HQ
          dsimp only at hs2 HQ2 ⊢
          have hs3 := LStp.after HF2.out.1 HF2.out.2.1 HF2.out.2.2 (LStp.ext0 L2.out HX5.out HBK.out hs2)
          have HS6 := hid hs3
          obtain ⟨x6, l6, f6, b6, q6⟩ := hs3
          have HF6 := hid (And.intro f6 (And.intro b6 q6))
          have L6 := hid l6
          clear f6 b6 q6 l6 hs2
          obtain ⟨c0, c1, c2, c3, c4, c5, cf⟩ := blk6 L6.out.lg
          by_cases hc : c = 0
          case neg =>
            have hc1 : ((c : Int) != 0) = true := by simp; omega
            have HQ3 : Hid (R = ⟨c, 0, 0, s6, gk⟩) := hid (by rw [← HQ2.out, if_pos hc])
            clear HQ2 hc
            go_wp2
            go_returns
            rw [HQ3.out]
            exact ⟨rfl, HS6.out⟩
          subst hc
          obtain ⟨gf, hgf⟩ : ∃ G : LG, ({ gk with at' := gk.at' + UInt64.ofNat n, uns := if gk.seg < gk.uns then gk.seg else gk.uns } : LG) = G := ⟨_, rfl⟩
          obtain ⟨g2, hg2⟩ : ∃ G : LG, ({ gk with at' := gk.at' + UInt64.ofNat n } : LG) = G := ⟨_, rfl⟩
          have HQ3 : Hid (R = ⟨0, gk.seg, gk.at', s6, gf⟩) := hid (by rw [← HQ2.out, if_neg (by simp), ← hgf])
          have hwa : IntKind.u64.wrap ((gk.at'.toNat : Int) + (n : Int)) = (g2.at'.toNat : Int) := by
            rw [← hg2]
            show _ = ((gk.at' + UInt64.ofNat n).toNat : Int)
            rw [IntKind.wrap_u64, UInt64.toNat_add, u64n HN.out]
            omega
          have hnw : IntKind.u64.wrap (n : Int) = (n : Int) := by rw [IntKind.wrap_u64]; have := HN.out; omega
          have HG2 : Hid (g2.seg = gk.seg ∧ g2.uns = gk.uns ∧ gf = { g2 with uns := if gk.seg < gk.uns then gk.seg else gk.uns }) := hid (by subst hg2; exact ⟨rfl, rfl, hgf.symm⟩)
          have hb7 : (w6.setCell ⟨b, 2, none⟩ (uv g2.at')).heap[b]? = some (logO p g2) := by
            have := Go.Joins.block_setCell (i := 2) L6.out.lg (uv g2.at')
            subst hg2
            simpa using this
          have hf7 : Fr [b] w6 (w6.setCell ⟨b, 2, none⟩ (uv g2.at')) := fr_setCell _ _ _ (by simp)
          have HB7 := hid hb7
          have HF7 := hid hf7
          clear HQ2 hgf hg2 hb7 hf7
          obtain ⟨W, hW⟩ : ∃ W, w6.setCell ⟨b, 2, none⟩ (uv g2.at') = W := ⟨_, rfl⟩
          rw [hW] at HB7 HF7
          go_wp2_with fail
          try rw [hW]
          clear hW hwa hnw c0 c1 c2 c3 c4 c5 cf
          obtain ⟨d0, d1, d2, d3, d4, d5, df⟩ := blk6 HB7.out
          have hmin := min_u64 gk.uns gk.seg
          rw [HG2.out.1] at d1
          rw [HG2.out.2.1] at d4
          have HD := hid (And.intro d1 (And.intro d4 (df 4)))
          obtain ⟨un, hun⟩ : ∃ u, (if gk.seg < gk.uns then gk.seg else gk.uns) = u := ⟨_, rfl⟩
          rw [hun] at hmin HG2
          clear hun d0 d1 d2 d3 d4 d5 df
          refine ParE.wp_region_e (l := [_, _, _, _, _, _, _, _, _, _, _, _, _]) rfl (Rg.Ch [12] [] (OnQ W fun w' => Fr [b] W w' ∧ w'.heap[b]? = some (logO p gf))) (ParC.VC [ParC.EQ (pv b), ParC.EQ (pv b), ParC.EQ (pv b), ParC.EQ (Value.pointer (some ⟨b, 4, none⟩)), ParC.EQ (uv gk.uns), ParC.EQ (pv b), ParC.EQ (pv b), ParC.EQ (Value.pointer (some ⟨b, 1, none⟩)), ParC.EQ (uv gk.seg), ParC.EQ (uv un), ParC.EQ (pv b), ParC.EQ (Value.pointer (some ⟨b, 4, none⟩)), fun _ => True]) (by kernel_rfl) (by kernel_rfl) (Rg.Ch.start ⟨fun _ => Ext.draw _, trivial⟩) ?_ ?_
          · refine ⟨fun L ρ w' hR hC hL hd hk => ?_, ?_⟩
            · exact Par.val_of_run rfl ⟨hR.other (by decide), hk.1⟩
            refine ⟨fun L ρ w' hR hC hL hd hk => ?_, ?_⟩
            · exact Par.val_of_run rfl ⟨hR.other (by decide), hk.1⟩
            refine ⟨fun L ρ w' hR hC hL hd hk => ?_, ?_⟩
            · obtain ⟨k0, -⟩ := hk
              have e0 : ρ (.tmp 81) = pv b := k0
              clear k0
              refine Par.val_k fun K hK => ?_
              unfold Par.val
              (go_simp; exact hK _ _ ⟨hR.other (by decide), rfl⟩)
            refine ⟨fun L ρ w' hR hC hL hd hk => ?_, ?_⟩
            · obtain ⟨k0, -⟩ := hk
              have e0 : ρ (.tmp 82) = pv b := k0
              clear k0
              refine Par.val_k fun K hK => ?_
              unfold Par.val
              (go_simp; exact hK _ _ ⟨hR.other (by decide), rfl⟩)
            refine ⟨fun L ρ w' hR hC hL hd hk => ?_, ?_⟩
            · obtain ⟨k0, -⟩ := hk
              have e0 : ρ (.tmp 83) = Value.pointer (some ⟨b, 4, none⟩) := k0
              clear k0
              refine Par.val_k fun K hK => ?_
              unfold Par.val
              (obtain ⟨i, hi, hq⟩ := hR.some 0 rfl (hC.notyet 12 4 hL (by kernel_rfl)); have cc := (hq.1 (by omega)).cell HD.out.2.1; go_simp; exact hK _ _ ⟨hR.other (by decide), rfl⟩)
            refine ⟨fun L ρ w' hR hC hL hd hk => ?_, ?_⟩
            · exact Par.val_of_run rfl ⟨hR.other (by decide), hk.1⟩
            refine ⟨fun L ρ w' hR hC hL hd hk => ?_, ?_⟩
            · obtain ⟨k0, -⟩ := hk
              have e0 : ρ (.tmp 85) = pv b := k0
              clear k0
              refine Par.val_k fun K hK => ?_
              unfold Par.val
              (go_simp; exact hK _ _ ⟨hR.other (by decide), rfl⟩)
            refine ⟨fun L ρ w' hR hC hL hd hk => ?_, ?_⟩
            · obtain ⟨k0, -⟩ := hk
              have e0 : ρ (.tmp 86) = pv b := k0
              clear k0
              refine Par.val_k fun K hK => ?_
              unfold Par.val
              (go_simp; exact hK _ _ ⟨hR.other (by decide), rfl⟩)
            refine ⟨fun L ρ w' hR hC hL hd hk => ?_, ?_⟩
            · obtain ⟨k0, -⟩ := hk
              have e0 : ρ (.tmp 87) = Value.pointer (some ⟨b, 1, none⟩) := k0
              clear k0
              refine Par.val_k fun K hK => ?_
              unfold Par.val
              (obtain ⟨i, hi, hq⟩ := hR.some 0 rfl (hC.notyet 12 8 hL (by kernel_rfl)); have cc := (hq.1 (by omega)).cell HD.out.1; go_simp; exact hK _ _ ⟨hR.other (by decide), rfl⟩)
            refine ⟨fun L ρ w' hR hC hL hd hk => ?_, ?_⟩
            · obtain ⟨k0, k1, -⟩ := hk
              have e0 : ρ (.tmp 84) = uv gk.uns := k0
              have e1 : ρ (.tmp 88) = uv gk.seg := k1
              clear k0 k1
              refine Par.val_k fun K hK => ?_
              unfold Par.val
              (go_simp; exact hK _ _ ⟨hR.other (by decide), rfl⟩)
            refine ⟨fun L ρ w' hR hC hL hd hk => ?_, ?_⟩
            · obtain ⟨k0, -⟩ := hk
              have e0 : ρ (.tmp 80) = pv b := k0
              clear k0
              refine Par.val_k fun K hK => ?_
              unfold Par.val
              (go_simp; exact hK _ _ ⟨hR.other (by decide), rfl⟩)
            refine ⟨fun L ρ w' hR hC hL hd hk => ?_, ?_⟩
            · obtain ⟨k0, -⟩ := hk
              have e0 : ρ (.tmp 90) = pv b := k0
              clear k0
              refine Par.val_k fun K hK => ?_
              unfold Par.val
              (go_simp; exact hK _ _ ⟨hR.other (by decide), rfl⟩)
            refine ⟨fun L ρ w' hR hC hL hd hk => ?_, ?_⟩
            · obtain ⟨k0, k1, -⟩ := hk
              have e0 : ρ (.tmp 91) = Value.pointer (some ⟨b, 4, none⟩) := k0
              have e1 : ρ (.tmp 89) = uv un := k1
              clear k0 k1
              refine Par.val_k fun K hK => ?_
              unfold Par.val
              (obtain ⟨hq, hs⟩ := hR.go 0 rfl hL (.inl rfl) (by decide); have hx := hq.1 (by decide); have hbx := hx.obj HB7.out; obtain ⟨-, -, -, -, m4, -, mf⟩ := blk6 hbx; have mf4 := mf 4; have HB9 := hid hbx; have HX9 := hid hx; clear hbx hx; go_simp; exact hK _ _ ⟨hs none _ _ ⟨fun h => absurd h (by decide), (Ext.fr HX9.out).trans (fr_setCell _ _ _ (by simp)), by have h9 := Go.Joins.block_setCell (i := 4) HB9.out (uv un); rw [HG2.out.2.2]; simpa using h9⟩, trivial⟩)
            trivial
          intro a' w' inv hR
          have q80 : a'.tmps.getD 80 undef = pv b := inv.done 0 _ 80 rfl rfl rfl
          have q81 : a'.tmps.getD 81 undef = pv b := inv.done 1 _ 81 rfl rfl rfl
          have q82 : a'.tmps.getD 82 undef = pv b := inv.done 2 _ 82 rfl rfl rfl
          have q83 : a'.tmps.getD 83 undef = Value.pointer (some ⟨b, 4, none⟩) := inv.done 3 _ 83 rfl rfl rfl
          have q84 : a'.tmps.getD 84 undef = uv gk.uns := inv.done 4 _ 84 rfl rfl rfl
          have q85 : a'.tmps.getD 85 undef = pv b := inv.done 5 _ 85 rfl rfl rfl
          have q86 : a'.tmps.getD 86 undef = pv b := inv.done 6 _ 86 rfl rfl rfl
          have q87 : a'.tmps.getD 87 undef = Value.pointer (some ⟨b, 1, none⟩) := inv.done 7 _ 87 rfl rfl rfl
          have q88 : a'.tmps.getD 88 undef = uv gk.seg := inv.done 8 _ 88 rfl rfl rfl
          have q89 : a'.tmps.getD 89 undef = uv un := inv.done 9 _ 89 rfl rfl rfl
          have q90 : a'.tmps.getD 90 undef = pv b := inv.done 10 _ 90 rfl rfl rfl
          have q91 : a'.tmps.getD 91 undef = Value.pointer (some ⟨b, 4, none⟩) := inv.done 11 _ 91 rfl rfl rfl
          clear inv
          simp only [List.filterMap_cons, List.filterMap_nil, Par.putAll, Act.put, List.setIfInBounds_toArray, List.set_cons_succ, List.set_cons_zero, q80, q81, q82, q83, q84, q85, q86, q87, q88, q89, q90, q91]
          clear q80 q81 q82 q83 q84 q85 q86 q87 q88 q89 q90 q91
          obtain ⟨-, hf8, hb8⟩ := Rg.Ch.fin hR (by decide) 1 rfl; have HF8 := hid hf8; have HB8 := hid hb8; clear hf8 hb8 hR
          try clear a'
          obtain ⟨-, d1, -, -, -, -, -⟩ := blk6 HB8.out
          have hgs : gf.seg = gk.seg := by rw [HG2.out.2.2]; exact HG2.out.1
          rw [hgs] at d1
          clear hmin hgs
          go_wp2
          go_returns
          rw [HQ3.out]
          exact ⟨rfl, LStp.after HF6.out.1 HF6.out.2.1 HF6.out.2.2 (L6.out.turn (HF7.out.trans HF8.out) HB8.out (Nat.le_trans HB.out HF6.out.1.size))⟩
        · exact hgo _ (fun h => by cases h) (fun _ h => by cases h)
end Go.Proofs.YtmbigiihcplcjaaGreatDoor

set_option linter.unusedSimpArgs false
set_option linter.unusedVariables false
set_option maxRecDepth 100000
namespace Go.Proofs.YtmbigiihcplcjaaGreatDoor
open Go Go.RowKit Go.Tum Go.ChangeMaps Go.Tum.Crc Go.Nam

theorem synN_last (a : Nat) (s : PS) : synN 0 a s = (0, s) := rfl
theorem synN_bad {k a : Nat} {s : PS} {c : Nat} {s2 : PS} (h : synP s (segN a) = (c, s2)) (hc : c ≠ 0) : synN (k + 1) a s = (c, s2) := by
  unfold synN
  rw [h, if_pos hc]
theorem synN_ok {k a : Nat} {s s2 : PS} (h : synP s (segN a) = (0, s2)) : synN (k + 1) a s = synN k (a + 1) s2 := by
  conv => lhs; unfold synN
  rw [h, if_neg (by simp)]
def SynR (B : Nat) (w : World) (p b : Nat) (x : DX) (r : Nat × PS × LG) (e : Ending) (w' : World) : Prop := e = .returned (.int .i64 (r.1 : Nat)) ∧ LStp B w p b x r.2.1 r.2.2 w'
set_option maxHeartbeats 800000 in
theorem ssync_any {B : Nat} {w : World} {p b : Nat} {x : DX} {s : PS} {g : LG} (h : Lg B w p b x s g) (hB : B ≤ w.heap.size) (hw : WF s) (hp : PwB B w) (hgs : g.seg.toNat < 10000000000) (hgu : g.uns.toNat ≤ g.seg.toNat + 1) :
    Calls Tryz.prog 26 #[pv b] w fun e w' => SynR B w p b x (synG s g) e w' := by
  have HP := hid hp
  have H := hid h
  have HB := hid hB
  have HGS := hid hgs
  have HGU := hid hgu
  obtain ⟨R, hR⟩ : ∃ R, synG s g = R := ⟨_, rfl⟩
  rw [hR]
  obtain ⟨N, hN⟩ : ∃ N, g.seg.toNat + 1 - g.uns.toNat = N := ⟨_, rfl⟩
  unfold synG at hR
  rw [hN] at hR
  have HR := hid hR
  have HN := hid hN
  have HW := hid hw
  obtain ⟨c0, c1, c2, c3, c4, c5, cf⟩ := blk6 h.lg
  have hcv : IntKind.u64.wrap ((g.seg.toNat : Int) + 1) = (g.seg.toNat : Int) + 1 := by rw [IntKind.wrap_u64]; omega
  have hcn : IntKind.u64.wrap ((g.seg.toNat : Int) + 1 - (g.uns.toNat : Int)) = (N : Int) := by rw [IntKind.wrap_u64]; omega
  clear h hB hw hp hgs hgu hR hN
  go_enter Tryz.func26, Tryz.ntmps26
  go_wp2_with fail
  go_quiet (fail)
  go_wp2
  clear hcv hcn c0 c1 c2 c3 c4 c5 cf
  go_loopw [18] (fun i wr => ∃ (k : Nat) (xr : DX) (sr : PS), k ≤ N ∧ i = .int .u64 (k : Int) ∧ Hid (Lg B wr p b xr sr g) ∧ Hid (Fr (b :: x.blk p) w wr ∧ Below B w wr ∧ ∀ q ∈ xr.blk p, q ∈ x.blk p ∨ w.heap.size ≤ q) ∧ Hid (WF sr) ∧ Hid (synN N g.uns.toNat s = synN (N - k) (g.uns.toNat + k) sr)) (fun i _ => N - (intOf i).toNat)
  case atStart =>
    have hx : Ext w (w.drewN nq) := Ext.drewN _ _
    exact ⟨0, x, s, Nat.zero_le _, rfl, hid (H.out.ext hx), hid ⟨Ext.fr hx, hx.mono HB.out, fun q hq => .inl hq⟩, HW, hid rfl⟩
  case round =>
    obtain ⟨k, xr, sr, hk, rfl, HL, HF, HWR, HS⟩ := hrel
    by_cases hlt : k < N
    · have hki : decide (k < N) = true := by simpa using hlt
      have hkj : decide ((k : Int) < (N : Int)) = true := by simp; omega
      obtain ⟨c0, c1, c2, c3, c4, c5, cf⟩ := blk6 HL.out.lg
      obtain ⟨qn, hqn⟩ : ∃ q, g.uns + UInt64.ofNat k = q := ⟨_, rfl⟩
      have hn1 : qn.toNat = g.uns.toNat + k := by
        have h1 := HN.out
        have h2 := HGS.out
        have h3 := HGU.out
        rw [← hqn, UInt64.toNat_add, UInt64.toNat_ofNat']
        omega
      have hcv : IntKind.u64.wrap ((g.uns.toNat : Int) + (k : Int)) = (qn.toNat : Int) := by
        rw [hn1, IntKind.wrap_u64]
        have h1 := HN.out
        have h2 := HGS.out
        omega
      have HLT := hid hlt
      have HNM := hid hn1
      have hs1 : qn.toNat < 10000000000 := by
        have h1 := HN.out
        have h2 := HGS.out
        omega
      have HS1 := hid hs1
      clear hlt hk hn1 hs1 hqn
      go_wp2_with fail
      refine Calls.mono (ofM_any qn _ (HP.out _ HF.out.2.1)) ?_
      rintro e w1 ⟨k1, -, hx⟩
      obtain rfl := k1 HS1.out
      have HX1 := hid hx
      have L1 := hid (HL.out.ext hx)
      clear k1 hx c0 c1 c2 c3 c4 c5 cf hcv hki hkj
      obtain ⟨c0, c1, c2, c3, c4, c5, cf⟩ := blk6 L1.out.lg
      have HBR : Hid (B ≤ w1.heap.size) := hid (Nat.le_trans HB.out (Nat.le_trans HF.out.1.size HX1.out.size))
      go_wp2_with fail
      refine Calls.mono (dsync_any (segN qn.toNat) (segN_max HS1.out) L1.out.dk HBR.out (HWR.out.syn _).gd) ?_
      rintro e w2 ⟨rfl, hs⟩
      have hs2 := LStp.after HF.out.1 HF.out.2.1 HF.out.2.2 (LStp.ext0 HL.out HX1.out (Nat.le_trans HB.out HF.out.1.size) (L1.out.step hs))
      have hwk := HWR.out.syn (segN qn.toNat)
      obtain ⟨C, hC⟩ : ∃ C, synP sr (segN qn.toNat) = C := ⟨_, rfl⟩
      rw [hC] at hs2 hwk
      try rw [hC]
      obtain ⟨c, s2⟩ := C
      have HC := hid hC
      dsimp only at hs2 hwk ⊢
      have HS2 := hid hs2
      obtain ⟨x2, l2, f2, b2, q2⟩ := hs2
      have HF2 := hid (And.intro f2 (And.intro b2 q2))
      have L2 := hid l2
      have HW2 := hid hwk
      clear hC hs c0 c1 c2 c3 c4 c5 cf f2 b2 q2 l2 hwk
      have HNK : Hid (N - k = (N - (k + 1)) + 1) := hid (by have := HLT.out; omega)
      by_cases hc : c = 0
      case neg =>
        have hc1 : ((c : Int) != 0) = true := by simp; omega
        have HQ : Hid (R = (c, s2, g)) := hid (by
          have h1 := HR.out
          have h2 := HC.out
          rw [HNM.out] at h2
          rw [HS.out, HNK.out, synN_bad h2 hc] at h1
          dsimp only at h1
          rw [if_pos hc] at h1
          exact h1.symm)
        clear hc
        go_wp2
        go_returns
        rw [HQ.out]
        exact ⟨rfl, HS2.out⟩
      subst hc
      have HSN : Hid (synN N g.uns.toNat s = synN (N - (k + 1)) (g.uns.toNat + (k + 1)) s2) := hid (by
        have h2 := HC.out
        rw [HNM.out] at h2
        rw [HS.out, HNK.out, synN_ok h2]
        rfl)
      have hck : IntKind.u64.wrap ((k : Int) + 1) = (k : Int) + 1 := by
        rw [IntKind.wrap_u64]
        have h1 := HN.out
        have h2 := HGS.out
        have h3 := HLT.out
        omega
      go_wp2
      go_roundw
      case rel => exact ⟨k + 1, x2, s2, HLT.out, by go_num, L2, HF2, HW2, HSN⟩
      case measure => simp [intOf]; have := HLT.out; omega
    · obtain rfl : k = N := by omega
      have hki : decide (k < k) = false := by simp
      have hkj : decide ((k : Int) < (k : Int)) = false := by simp
      obtain ⟨c0, c1, c2, c3, c4, c5, cf⟩ := blk6 HL.out.lg
      have HSN : Hid (synN k g.uns.toNat s = (0, sr)) := hid (by rw [HS.out, Nat.sub_self]; rfl)
      have HQ : Hid ((if g.beg = true then (if (dsyP sr).1 ≠ 0 then ((dsyP sr).1, (dsyP sr).2, g) else (0, (dsyP sr).2, { g with uns := g.seg + 1, beg := false })) else (0, sr, { g with uns := g.seg + 1, beg := false })) = R) := hid (by
        have h1 := HR.out
        rw [HSN.out] at h1
        dsimp only at h1
        rw [if_neg (by simp)] at h1
        exact h1)
      have HBR : Hid (B ≤ wr.heap.size) := hid (Nat.le_trans HB.out HF.out.1.size)
      obtain ⟨bg, hbg⟩ : ∃ c, g.beg = c := ⟨_, rfl⟩
      rw [hbg] at c5 HQ
      have HBG := hid hbg
      have hv1 : ((g.seg.toNat : Int) + 1) % 18446744073709551616 = ((g.seg + 1).toNat : Int) := by rw [← wrap_succ, IntKind.wrap_u64]
      have HV1 := hid hv1
      clear hlt hk hbg hv1
      cases bg
      case false =>
        have HQ2 : Hid (R = (0, sr, { g with uns := g.seg + 1, beg := false })) := hid (by rw [← HQ.out, if_neg (by decide)])
        clear HQ
        go_wp2
        go_returns
        rw [HQ2.out]
        try rw [HV1.out]
        exact ⟨rfl, LStp.after HF.out.1 HF.out.2.1 HF.out.2.2 (HL.out.turn (fr45 _ _ _ _) (set45 HL.out.lg _ _) HBR.out)⟩
      go_wp2_with fail
      clear hki hkj
      refine Calls.mono (ddsync_any HL.out.dk HBR.out (HWR.out.dsy).gd) ?_
      rintro e w2 ⟨rfl, hs⟩
      have hs2 := LStp.after HF.out.1 HF.out.2.1 HF.out.2.2 (HL.out.step hs)
      obtain ⟨C, hC⟩ : ∃ C, dsyP sr = C := ⟨_, rfl⟩
      rw [hC] at hs2 HQ
      try rw [hC]
      obtain ⟨c, s2⟩ := C
      dsimp only at hs2 HQ ⊢
      have HS2 := hid hs2
      obtain ⟨x2, l2, f2, b2, q2⟩ := hs2
      have HF2 := hid (And.intro f2 (And.intro b2 q2))
      have L2 := hid l2
      clear hC hs c0 c1 c2 c3 c4 c5 cf f2 b2 q2 l2
      obtain ⟨c0, c1, c2, c3, c4, c5, cf⟩ := blk6 L2.out.lg
      by_cases hc : c = 0
      case neg =>
        have hc1 : ((c : Int) != 0) = true := by simp; omega
        have HQ2 : Hid (R = (c, s2, g)) := hid (by rw [← HQ.out, if_pos trivial, if_pos hc])
        clear HQ hc
        go_wp2
        go_returns
        rw [HQ2.out]
        exact ⟨rfl, HS2.out⟩
      subst hc
      have HQ2 : Hid (R = (0, s2, { g with uns := g.seg + 1, beg := false })) := hid (by rw [← HQ.out, if_pos trivial, if_neg (by simp)])
      clear HQ
      go_wp2
      go_returns
      rw [HQ2.out]
      try rw [HV1.out]
      exact ⟨rfl, LStp.after HF2.out.1 HF2.out.2.1 HF2.out.2.2 (L2.out.turn (fr45 _ _ _ _) (set45 L2.out.lg _ _) (Nat.le_trans HB.out HF2.out.1.size))⟩
end Go.Proofs.YtmbigiihcplcjaaGreatDoor

