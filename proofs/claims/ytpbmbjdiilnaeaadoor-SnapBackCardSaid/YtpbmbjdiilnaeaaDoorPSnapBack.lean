/- For every input the law SnapBack returns true and leaves what was there as it was; and its card.
SnapBack. -/
import Derived.Test.YtpbmbjdiilnaeaaDoorSnpME
import Derived.Test.YtpbmbjdiilnaeaaDoorCards
import Derived.Test.YtpbmbjdiilnaeaaDoorTie
import Derived.WalkKit
import Derived.ProofKit
import Derived.OpenShut
import Derived.Below
import Derived.Deep.DeepHandedRow
import Derived.SizedLaws
import Derived.Lib.LaidTab
import Derived.Test.YtpbmbjdiilnaeaaDoorFrame
import Derived.Lib.SmallJoins
set_option linter.unusedSimpArgs false
set_option linter.unusedVariables false
set_option maxRecDepth 100000
namespace Go.Proofs.YtpbmbjdiilnaeaaDoor
open Go Go.RowKit Go.Tum Go.ChangeMaps Go.Sort Go.Tum.Vint Go.Tum.Crc
open Go.ParB (upd Lof)
open Go.ParE (putS slotsR slots Closed)

theorem fld_state (v0 v1 v2 v3 v4 v5 v6 v7 v8 v9 : Value) (w : World) : (Instr.field 39 (.agg #[v0, v1, v2, v3, v4, v5, v6, v7, v8, v9]) 0).run Tryd.prog w = .ok (.agg #[v0, v1, v2, v3, v4, v5, v6, v7]) w := by kernel_rfl
theorem snp_shape {w : World} {s : Snp} {vi vd vc : Value} (h : SnpIn w s vi vd vc) : ∃ io ic do_ dc co cc, vi = .slice io s.items.length ic ∧ vd = .slice do_ s.dead.length dc ∧ vc = .slice co s.curs.length cc := by
  obtain ⟨io, ic, rfl, -⟩ := h.it.open
  obtain ⟨do_, dc, rfl, -⟩ := h.dd.open
  obtain ⟨co, cc, rfl, -⟩ := h.cu.open
  exact ⟨_, _, _, _, _, _, rfl, rfl, rfl⟩
def BkQ (W : World) (mp : List (Rc × Value)) (ro : Option Addr) (rc : Nat) (K : UInt64) (np : Nat) (d : Nat) (v : Value) (w' : World) : Prop := match d with
  | 69 => ∃ g, v = .slice (some ⟨g, 0, none⟩) 0 0 ∧ w'.heap[g]? = some (.cells #[] 62 (0, 0)) ∧ W.heap.size ≤ g
  | 71 => w'.ownsRow W.heap.size 62 3 v np (mp.flatMap rcells)
  | 78 => ∃ g, v = .slice (some ⟨g, 0, none⟩) 1 1 ∧ w'.heap[g]? = some (.cells #[.int .i64 17, .slice ro 1 rc, .string ⟨#[]⟩] 62 (0, 0))
  | 79 => w'.ownsRow W.heap.size 62 3 v (np + 1) (mp.flatMap rcells ++ [.int .i64 17, .slice ro 1 rc, .string ⟨#[]⟩])
  | 13 => ∃ q, v = pv q ∧ w'.heap[q]? = some (.cells #[.int .u64 0, .int .u64 0, .int .u64 0, .int .u64 0, .int .u64 0, .slice none 0 0, .slice none 0 0, .slice none 0 0, .int .u64 0, .int .u64 0] 29 (0, 0)) ∧ W.heap.size ≤ q
  | _ => True
theorem BkQ.st {W : World} {mp : List (Rc × Value)} {ro : Option Addr} {rc : Nat} {K : UInt64} {np : Nat} : ∀ d v w w', BkQ W mp ro rc K np d v w → Ext w w' → BkQ W mp ro rc K np d v w' := by
  intro d v w w' h k
  unfold BkQ at h ⊢
  split
  · obtain ⟨g, h1, h2, h3⟩ := h; exact ⟨g, h1, k.obj h2, h3⟩
  · exact k.owns h
  · obtain ⟨g, h1, h2⟩ := h; exact ⟨g, h1, k.obj h2⟩
  · exact k.owns h
  · obtain ⟨g, h1, h2, h3⟩ := h; exact ⟨g, h1, k.obj h2, h3⟩
  · trivial
theorem emp_row {w : World} {g B : Nat} {T : TypeId} (hg : w.heap[g]? = some (.cells #[] T (0, 0))) (hB : B ≤ g) : w.ownsRow B T 3 (.slice (some ⟨g, 0, none⟩) 0 0) 0 [] := by
  refine ⟨rfl, .inr ⟨g, 0, #[], rfl, hB, hg, Nat.le_refl _, by simp [maxLen], rfl, rfl⟩⟩
theorem bk_keep {W w w9 : World} {mp : List (Rc × Value)} {ro : Option Addr} {rc np g : Nat} {K : UInt64} {σ : Nat → Value} (hg : w.grownBy w9 (Value.ownBlock (.slice (some ⟨g, 0, none⟩) 0 0))) (hb : Below W.heap.size w w9) (hgb : w.heap[g]? = some (.cells #[] 62 (0, 0))) :
    ∀ x ∈ [((9 : Nat), (78 : Nat), (10 : Nat)), (15, 13, 16)], BkQ W mp ro rc K np x.2.1 (σ x.2.1) w → BkQ W mp ro rc K np x.2.1 (σ x.2.1) w9 := by
  have hf := fr_grown hg hb
  have hk : ∀ {q : Nat} {cs : Array Value} {ty : TypeId}, w.heap[q]? = some (.cells cs ty (0, 0)) → cs.size ≠ 0 → w9.heap[q]? = some (.cells cs ty (0, 0)) := fun {q cs ty} hq hs => by
    rw [hf.block q (Array.getElem?_eq_some_iff.1 hq).1 (fun hm => by
      simp [oB, Value.ownBlock] at hm
      subst hm
      rw [hgb] at hq
      simp only [Option.some.injEq, Obj.cells.injEq] at hq
      exact hs (by rw [← hq.1]; rfl))]
    exact hq
  intro x hx h
  simp only [List.mem_cons, List.not_mem_nil, or_false] at hx
  rcases hx with rfl | rfl
  · obtain ⟨q, h1, h2⟩ := h
    exact ⟨q, h1, hk h2 (by simp)⟩
  · obtain ⟨q, h1, h2, h3⟩ := h
    exact ⟨q, h1, hk h2 (by simp), h3⟩
theorem bk_keep2 {W w w9 : World} {mp : List (Rc × Value)} {ro : Option Addr} {rc np n : Nat} {K : UInt64} {σ : Nat → Value} {v : Value} {xs : List Value} (hg : w.grownBy w9 v.ownBlock) (hb : Below W.heap.size w w9) (ho : w.ownsRow W.heap.size 62 3 v n xs) :
    ∀ x ∈ [((15 : Nat), (13 : Nat), (16 : Nat))], BkQ W mp ro rc K np x.2.1 (σ x.2.1) w → BkQ W mp ro rc K np x.2.1 (σ x.2.1) w9 := by
  intro x hx h
  simp only [List.mem_cons, List.not_mem_nil, or_false] at hx
  subst hx
  obtain ⟨q, h1, h2, h3⟩ := h
  exact ⟨q, h1, box_far h2 ho (by decide) hg hb, h3⟩
theorem bk_rcs {w : World} {B T np rc : Nat} {v : Value} {mp : List (Rc × Value)} {l : List Rc} {K : UInt64} {ro : Option Addr} (h : w.ownsRow B T 3 v (np + 1) (mp.flatMap rcells ++ [.int .i64 17, .slice ro 1 rc, .string ⟨#[]⟩])) (hn : mp.length = np) (hm : mp.map (·.1) = l) (hi : ∀ q ∈ mp ++ [((⟨17, [K], []⟩ : Rc), Value.slice ro 1 rc)], Vec uv w q.2 q.1.n) : Rcs w v (l ++ [⟨17, [K], []⟩]) := by
  subst hn hm
  have e1 : (mp ++ [((⟨17, [K], []⟩ : Rc), Value.slice ro 1 rc)]).length = mp.length + 1 := by simp
  have e2 : (mp ++ [((⟨17, [K], []⟩ : Rc), Value.slice ro 1 rc)]).flatMap rcells = mp.flatMap rcells ++ [.int .i64 17, .slice ro 1 rc, .string ⟨#[]⟩] := by rw [List.flatMap_append]; rfl
  exact ⟨mp ++ [(⟨17, [K], []⟩, .slice ro 1 rc)], by simp, ⟨fun _ _ => rfl, by
    rw [e1, e2]
    exact Sl.of_owns h⟩, hi⟩
theorem Rcs.takeC {w : World} {ao : Option Addr} {n cap : Nat} {l : List Rc} (h : Rcs w (.slice ao n cap) l) (k : Nat) (hk : k ≤ l.length) : Rcs w (.slice ao k cap) (l.take k) := by
  obtain ⟨m, rfl, hr, hi⟩ := h
  rw [List.length_map] at hk
  refine ⟨m.take k, by rw [List.map_take], ⟨fun _ _ => rfl, ?_⟩, fun q hq => hi q (List.mem_of_mem_take hq)⟩
  obtain ⟨e1, h1, h2, h3, h4⟩ := hr.opens
  have hlen : (m.take k).length = k := by rw [List.length_take]; omega
  have hl3 : ∀ mm : List (Rc × Value), (mm.flatMap rcells).length = mm.length * 3 := fun mm => by
    induction mm with
    | nil => rfl
    | cons x mm ih =>
      have e : (x :: mm).length = mm.length + 1 := rfl
      rw [List.flatMap_cons, List.length_append, ih, e]
      show 3 + mm.length * 3 = (mm.length + 1) * 3
      omega
  rw [hlen]
  refine ⟨by rw [hl3, hlen], ao, cap, rfl, by omega, by simp [maxLen]; omega, fun hn => ?_, fun a ha j u hu => ?_⟩
  · by_cases hc : 0 < cap
    · obtain ⟨a, ha⟩ := h3 hc; rw [ha] at hn; cases hn
    · omega
  · have hjl : j < ((m.take k).flatMap rcells).length := (List.getElem?_eq_some_iff.1 hu).1
    have hsplit : m.flatMap rcells = (m.take k).flatMap rcells ++ (m.drop k).flatMap rcells := by rw [← List.flatMap_append, List.take_append_drop]
    have hu2 : (m.flatMap rcells)[j]? = some u := by rw [hsplit, List.getElem?_append_left hjl]; exact hu
    obtain ⟨-, ao2, cap2, e, -, -, -, hcell⟩ := hr.2
    cases e
    exact hcell a ha j u hu2
set_option maxHeartbeats 4000000 in
theorem snapBack_law (s : Snp) (vi vd vc lv : Value) (l : List Rc) (cut : Int) (w : World) (h : SnpIn w s vi vd vc) (hl : Rcs w lv l) (hcut : -9223372036854775808 ≤ cut ∧ cut ≤ 9223372036854775807) (ht : Tab w)
    (hz : s.items.length * 80 ≤ 140737488355328 ∧ s.dead.length * 16 ≤ 140737488355328 ∧ s.curs.length * 24 ≤ 140737488355328) :
    Calls Tryd.prog 4 #[.agg (snpC s vi vd vc), lv, .int .i64 cut] w fun e w' => e = .returned (.bool true) ∧ Ext w w' := by
  have HS0 := hid h
  have HRL := hid hl
  have HT := hid ht
  have HZ := hid hz
  obtain ⟨io, ic, do_, dc, co, cc, rfl, rfl, rfl⟩ := snp_shape h
  obtain ⟨lo, lc, nl, rfl⟩ : ∃ lo lc nl, lv = .slice lo nl lc := by
    obtain ⟨ml, hml, hr, -⟩ := hl
    obtain ⟨ao, cap, rfl, -⟩ := hr.open
    exact ⟨_, _, _, rfl⟩
  obtain ⟨n, hn⟩ : ∃ n, s.items.length = n := ⟨_, rfl⟩
  obtain ⟨nd, hnd⟩ : ∃ n, s.dead.length = n := ⟨_, rfl⟩
  obtain ⟨m, hm⟩ : ∃ n, s.curs.length = n := ⟨_, rfl⟩
  rw [hn, hnd, hm] at HS0 ⊢
  have HN := hid hn
  have HND := hid hnd
  have HM := hid hm
  obtain ⟨now, hnow⟩ : ∃ x, s.now = x := ⟨_, rfl⟩
  obtain ⟨next, hnext⟩ : ∃ x, s.next = x := ⟨_, rfl⟩
  obtain ⟨lea, hlea⟩ : ∃ x, s.lea = x := ⟨_, rfl⟩
  obtain ⟨trn, htrn⟩ : ∃ x, s.trn = x := ⟨_, rfl⟩
  obtain ⟨dth, hdth⟩ : ∃ x, s.dth = x := ⟨_, rfl⟩
  obtain ⟨sg, hsg⟩ : ∃ x, s.seg = x := ⟨_, rfl⟩
  obtain ⟨ps, hps⟩ : ∃ x, s.ps = x := ⟨_, rfl⟩
  have HCE : Hid (∀ a b c, snpC s a b c = #[uv now, uv next, uv lea, uv trn, uv dth, a, b, c, uv sg, uv ps]) := hid (fun a b c => by unfold snpC; rw [hnow, hnext, hlea, htrn, hdth, hsg, hps])
  rw [HCE.out]
  obtain ⟨W0, hW0⟩ : ∃ W, w.alloc (.cells #[uv now, uv next, uv lea, uv trn, uv dth, .slice io n ic, .slice do_ nd dc, .slice co m cc, uv sg, uv ps] 29 (0, 0)) = W := ⟨_, rfl⟩
  have hE0 := Ext.alloc w (.cells #[uv now, uv next, uv lea, uv trn, uv dth, .slice io n ic, .slice do_ nd dc, .slice co m cc, uv sg, uv ps] 29 (0, 0))
  have hb0 := heap_alloc_new w (.cells #[uv now, uv next, uv lea, uv trn, uv dth, .slice io n ic, .slice do_ nd dc, .slice co m cc, uv sg, uv ps] 29 (0, 0))
  rw [hW0] at hE0 hb0
  have HE0 := hid hE0
  have HB0 := hid hb0
  have HC := hid (awake13_any W0 (HT.out.ext hE0))
  have hfs := fld_state
  clear h hl ht hz hn hnd hm hnow hnext hlea htrn hdth hsg hps hE0 hb0
  go_enter Tryd.func4, Tryd.ntmps4
  go_wp2_with (first | rw [hW0] | fail)
  refine HC.out.mono ?_
  rintro e w1 ⟨rfl, hx⟩
  have HE1 := hid (HE0.out.trans hx)
  have HB1 := hid (hx.obj HB0.out)
  obtain ⟨p0, hp0⟩ : ∃ p, w.heap.size = p := ⟨_, rfl⟩
  rw [hp0] at HB1
  try rw [hp0]
  clear hx HC hW0 HB0 hp0
  have hc := own13_any s _ _ _ w1 (HS0.out.ext HE1.out) HZ.out
  rw [HCE.out] at hc
  have HC := hid hc
  obtain ⟨⟨b0, b1, b2, b3, b4, b5, b6, b7, b8, b9⟩, -⟩ := blk10 HB1.out
  clear hc
  go_wp2_with fail
  refine HC.out.mono ?_
  rintro e w2 ⟨⟨ui, ud, uc, rfl, hin⟩, hx⟩
  obtain ⟨oi, c1, od, c2, oc, c3, rfl, rfl, rfl⟩ := snp_shape hin
  rw [HCE.out, HN.out, HND.out, HM.out]
  rw [HN.out, HND.out, HM.out] at hin
  have HE2 := hid (HE1.out.trans hx)
  have HB2 := hid (hx.obj HB1.out)
  have HC := hid (rlarge13_any now next lea trn dth n nd m oi od oc c1 c2 c3 s.curs w2 hin.cu HM.out)
  clear hin hx b0 b1 b2 b3 b4 b5 b6 b7 b8 b9 HB1 HE1
  go_wp2_with (first | rw [hfs] | fail)
  refine HC.out.mono ?_
  rintro e w3 ⟨⟨r, rfl, hr⟩, hx⟩
  have HE3 := hid (HE2.out.trans hx)
  have HB3 := hid (hx.obj HB2.out)
  clear hx HC HB2 HE2
  cases r
  case true =>
    go_wp2
    go_returns
    exact ⟨rfl, HE3.out⟩
  have HSM : Hid (n ≤ 220 ∧ nd ≤ 220 ∧ m ≤ 20) := hid (hr.out rfl)
  clear hr
  have HC := hid (large13_any _ l w3 (HRL.out.ext HE3.out))
  go_wp2_with fail
  refine HC.out.mono ?_
  rintro e w4 ⟨⟨r, rfl, hr⟩, hx⟩
  have HE4 := hid (HE3.out.trans hx)
  have HB4 := hid (hx.obj HB3.out)
  clear hx HC HB3 HE3
  cases r
  case true =>
    go_wp2
    go_returns
    exact ⟨rfl, HE4.out⟩
  have HLL : Hid (l.length ≤ 300) := hid (hr.out rfl)
  clear hr
  obtain ⟨⟨b0, b1, b2, b3, b4, b5, b6, b7, b8, b9⟩, -⟩ := blk10 HB4.out
  have hsv := save_any s _ _ _ w4 (HS0.out.ext HE4.out) (by have := HSM.out; rw [HN.out, HND.out, HM.out]; omega)
  rw [HCE.out] at hsv
  obtain ⟨R, hR⟩ : ∃ R, rightS s = R := ⟨_, rfl⟩
  rw [hR] at hsv
  have HR := hid hR
  clear hR
  cases R
  case false =>
    have hc : Calls Tryd.prog 10 #[.agg #[uv now, uv next, uv lea, uv trn, uv dth, .slice io n ic, .slice do_ nd dc, .slice co m cc, uv sg, uv ps]] w4 fun e w' => e = .returned (.tuple #[.slice none 0 0, .int .i64 1]) ∧ Ext w4 w' := hsv.mono fun e w' h => by
      rw [if_neg (show ¬ (false = true) by decide)] at h
      exact h
    have HC := hid hc
    clear hc hsv
    go_wp2_with fail
    refine HC.out.mono ?_
    rintro e w5 ⟨rfl, hx⟩
    have HEZ := hid (HE4.out.trans hx)
    clear hx HC b0 b1 b2 b3 b4 b5 b6 b7 b8 b9
    have HC := hid (load_any _ l w5 (HRL.out.ext HEZ.out) (by have := HLL.out; omega) (HT.out.ext HEZ.out))
    obtain ⟨q, hq⟩ : ∃ q, loadR l = q := ⟨_, rfl⟩
    have HQ := hid hq
    clear hq
    go_wp2_with fail
    refine HC.out.mono ?_
    rintro e wt hp
    unfold LdP at hp
    rw [HQ.out] at hp
    clear HC
    cases q with
    | none =>
      obtain ⟨rfl, hx⟩ := hp
      have HET := hid (HEZ.out.trans hx)
      obtain ⟨⟨c0, c1, c2, c3, c4, c5, c6, c7, c8, c9⟩, -⟩ := blk10 (heap_alloc_new wt (.cells #[.int .u64 0, .int .u64 0, .int .u64 0, .int .u64 0, .int .u64 0, .slice none 0 0, .slice none 0 0, .slice none 0 0, .int .u64 0, .int .u64 0] 29 (0, 0)))
      clear hx
      go_wp2
      go_returns
      exact ⟨by first | rfl | simp, HET.out.trans (Ext.alloc _ _)⟩
    | some u =>
      obtain ⟨⟨ui', ud', uc', rfl, hin⟩, hx⟩ := hp
      obtain ⟨yi, y1, yd, y2, yc, y3, rfl, rfl, rfl⟩ := snp_shape hin
      have HIN := hid hin
      have HET := hid (HEZ.out.trans hx)
      have HLS := hid (load_some HQ.out)
      obtain ⟨u0, u1, u2, u3, u4, uit, udd, ucu, u5, u6⟩ := u
      obtain ⟨k1, hk1⟩ : ∃ x, uit.length = x := ⟨_, rfl⟩
      obtain ⟨k2, hk2⟩ : ∃ x, udd.length = x := ⟨_, rfl⟩
      obtain ⟨k3, hk3⟩ : ∃ x, ucu.length = x := ⟨_, rfl⟩
      have HUE : Hid (∀ a b c, snpC ⟨u0, u1, u2, u3, u4, uit, udd, ucu, u5, u6⟩ a b c = #[uv u0, uv u1, uv u2, uv u3, uv u4, a, b, c, uv u5, uv u6]) := hid (fun a b c => rfl)
      rw [HUE.out]
      dsimp only at HIN ⊢
      rw [hk1, hk2, hk3] at HIN ⊢
      have HK1 := hid hk1
      have HK2 := hid hk2
      have HK3 := hid hk3
      obtain ⟨WT, hWT⟩ : ∃ W, wt.alloc (.cells #[uv u0, uv u1, uv u2, uv u3, uv u4, .slice yi k1 y1, .slice yd k2 y2, .slice yc k3 y3, uv u5, uv u6] 29 (0, 0)) = W := ⟨_, rfl⟩
      have hET := Ext.alloc wt (.cells #[uv u0, uv u1, uv u2, uv u3, uv u4, .slice yi k1 y1, .slice yd k2 y2, .slice yc k3 y3, uv u5, uv u6] 29 (0, 0))
      have hbT := heap_alloc_new wt (.cells #[uv u0, uv u1, uv u2, uv u3, uv u4, .slice yi k1 y1, .slice yd k2 y2, .slice yc k3 y3, uv u5, uv u6] 29 (0, 0))
      rw [hWT] at hET hbT
      obtain ⟨⟨c0, c1, c2, c3, c4, c5, c6, c7, c8, c9⟩, -⟩ := blk10 hbT
      have HEU := hid (HET.out.trans hET)
      have hll := HLS.out.2
      have hsz : uit.length ≤ 300 ∧ udd.length ≤ 300 ∧ ucu.length ≤ 300 := by
        have h := congrArg List.length HLS.out.2
        have h2 := HLL.out
        unfold saveR bodyR at h
        simp only [List.length_append, List.length_map, List.length_cons, List.length_nil] at h
        omega
      have hsv := (show Calls Tryd.prog _ _ WT (fun e w' => (∃ v, e = .returned (.tuple #[v, .int .i64 0]) ∧ RcsO w' WT.heap.size 62 v l) ∧ Ext WT w') from (save_any ⟨u0, u1, u2, u3, u4, uit, udd, ucu, u5, u6⟩ _ _ _ WT (HIN.out.ext hET) (by dsimp only; omega)).mono fun e w' h => by
        rw [HLS.out.1, HLS.out.2, if_pos (show true = true from rfl)] at h
        exact h)
      rw [HUE.out] at hsv
      have HC := hid hsv
      clear hx hin hk1 hk2 hk3 hET hbT hll hsz hsv
      go_wp2_with (first | rw [hWT] | fail)
      refine HC.out.mono ?_
      rintro e wu ⟨⟨v6, rfl, ho⟩, hx⟩
      obtain ⟨ro, rc, rfl⟩ := ho.open
      have HEV := hid (HEU.out.trans hx)
      have HO6 := hid ho
      clear ho hx HC hWT c0 c1 c2 c3 c4 c5 c6 c7 c8 c9
      have HC := hid (owns13_any _ l wu HO6.out.rcs (by have := HLL.out; omega))
      go_wp2_with fail
      refine HC.out.mono ?_
      rintro e wv ⟨⟨u7, rfl, h7⟩, hx⟩
      have HEW := hid (HEV.out.trans hx)
      have H7 := hid h7
      obtain ⟨s7, n7, k7, rfl⟩ : ∃ a b c, u7 = .slice a b c := by
        obtain ⟨mm, _, hr, -⟩ := h7
        obtain ⟨ao, cap, rfl, -⟩ := hr.open
        exact ⟨_, _, _, rfl⟩
      clear h7 hx HC HO6
      have HC := hid (owns13_any _ l wv (HRL.out.ext HEW.out) (by have := HLL.out; omega))
      go_wp2_with fail
      refine HC.out.mono ?_
      rintro e wx ⟨⟨u8, rfl, h8⟩, hx⟩
      have HEX := hid (HEW.out.trans hx)
      have H7x := hid (H7.out.ext hx)
      have H8 := hid h8
      obtain ⟨s8, n8, k8, rfl⟩ : ∃ a b c, u8 = .slice a b c := by
        obtain ⟨mm, _, hr, -⟩ := h8
        obtain ⟨ao, cap, rfl, -⟩ := hr.open
        exact ⟨_, _, _, rfl⟩
      clear h8 hx HC H7
      have hc := rsames5_any _ _ l l wx H7x.out H8.out (by have := HLL.out; omega) (by have := HLL.out; omega)
      rw [recsame_eq rfl] at hc
      have HC := hid hc
      clear hc
      go_wp2_with fail
      refine HC.out.mono ?_
      rintro e wy ⟨rfl, hx⟩
      have HEY := hid (HEX.out.trans hx)
      clear hx HC
      go_wp2
      go_returns
      exact ⟨by first | rfl | simp, HEY.out⟩
  case true =>
    have hc : Calls Tryd.prog 10 #[.agg #[uv now, uv next, uv lea, uv trn, uv dth, .slice io n ic, .slice do_ nd dc, .slice co m cc, uv sg, uv ps]] w4 fun e w' => (∃ v, e = .returned (.tuple #[v, .int .i64 0]) ∧ RcsO w' w4.heap.size 62 v (saveR s)) ∧ Ext w4 w' := hsv.mono fun e w' h => by
      rw [if_pos (show true = true from rfl)] at h
      exact h
    have HC := hid hc
    clear hc hsv
    go_wp2_with fail
    refine HC.out.mono ?_
    rintro e w5 ⟨⟨v5, rfl, ho⟩, hx⟩
    obtain ⟨po, pc, rfl⟩ := ho.open
    obtain ⟨np, hnp⟩ : ∃ x, (saveR s).length = x := ⟨_, rfl⟩
    rw [hnp] at ho ⊢
    have HNP := hid hnp
    have HP5 := hid ho
    have HE5 := hid (HE4.out.trans hx)
    have HB5 := hid (hx.obj HB4.out)
    clear hx HC b0 b1 b2 b3 b4 b5 b6 b7 b8 b9 ho hnp HB4
    have hnpb : np ≤ 1000 := by
      rw [← HNP.out]
      have := HSM.out
      have h1 := HN.out
      have h2 := HND.out
      have h3 := HM.out
      unfold saveR bodyR
      simp only [List.length_append, List.length_map, List.length_cons, List.length_nil]
      omega
    have HNB := hid hnpb
    have HC := hid (show Calls Tryd.prog _ _ w5 (fun e w' => (∃ a b c, e = .returned (.tuple #[.agg (snpC s a b c), .int .i64 0]) ∧ SnpIn w' s a b c) ∧ Ext w5 w') from (load_any _ (saveR s) w5 HP5.out.rcs (by rw [HNP.out]; omega) (HT.out.ext HE5.out)).mono fun e w' h => by
      unfold LdP at h
      rw [load_save HR.out] at h
      exact h)
    go_wp2_with fail
    refine HC.out.mono ?_
    rintro e w6 ⟨⟨qi, qd, qc, rfl, hin⟩, hx⟩
    obtain ⟨xi, x1, xd, x2, xc, x3, rfl, rfl, rfl⟩ := snp_shape hin
    rw [HCE.out, HN.out, HND.out, HM.out]
    rw [HN.out, HND.out, HM.out] at hin
    obtain ⟨W7, hW7⟩ : ∃ W, w6.alloc (.cells #[uv now, uv next, uv lea, uv trn, uv dth, .slice xi n x1, .slice xd nd x2, .slice xc m x3, uv sg, uv ps] 29 (0, 0)) = W := ⟨_, rfl⟩
    have hE7 := Ext.alloc w6 (.cells #[uv now, uv next, uv lea, uv trn, uv dth, .slice xi n x1, .slice xd nd x2, .slice xc m x3, uv sg, uv ps] 29 (0, 0))
    have hb7 := heap_alloc_new w6 (.cells #[uv now, uv next, uv lea, uv trn, uv dth, .slice xi n x1, .slice xd nd x2, .slice xc m x3, uv sg, uv ps] 29 (0, 0))
    rw [hW7] at hE7 hb7
    have HQ7 := hid (hin.ext hE7)
    have HC7 := hid hb7
    have HE7 := hid (HE5.out.trans (hx.trans hE7))
    have HB7 := hid ((hx.trans hE7).obj HB5.out)
    have HP7 := hid (HP5.out.ext (hx.trans hE7))
    clear hin hx HC hE7 hb7 HB5 HE5 HP5
    go_wp2_with (first | rw [hW7] | fail)
    clear hW7
    obtain ⟨p9, hp9⟩ : ∃ p, w6.heap.size = p := ⟨_, rfl⟩
    rw [hp9] at HC7
    try rw [hp9]
    clear hp9
    refine Par.wp_region_par (l := [_, _, _, _, _, _, _, _, _, _]) rfl Ext (Par.VL [Par.EQ (Value.int IntKind.i64 0), Par.EQ (Value.bool false), Par.EQ (Value.bool false), Par.EQ (Value.agg #[uv now, uv next, uv lea, uv trn, uv dth, .slice xi n x1, .slice xd nd x2, .slice xc m x3, uv sg, uv ps]), (fun v w' => ∃ a b c, v = .agg (snpC s a b c) ∧ SnpIn w' s a b c), Par.EQ (Value.agg #[uv now, uv next, uv lea, uv trn, uv dth, .slice io n ic, .slice do_ nd dc, .slice co m cc, uv sg, uv ps]), (fun v w' => ∃ a b c, v = .agg (snpC s a b c) ∧ SnpIn w' s a b c), Par.EQ (Value.bool true), Par.EQ (Value.bool false), Par.EQ (Value.bool false)]) (by kernel_rfl) Ext.refl (fun _ _ _ h1 h2 => Ext.trans h1 h2) (Ext.draw _) (Par.VL_stab ?_) ?_ ?_
    · simp only [List.forall_mem_cons, List.not_mem_nil, false_implies, implies_true, and_true]
      refine ⟨fun _ _ _ _ h => h, fun _ _ _ _ h => h, fun _ _ _ _ h => h, fun _ _ _ _ h => h, fun _ _ _ k h => (let ⟨a, b, c, h1, h2⟩ := h; ⟨a, b, c, h1, h2.ext k⟩), fun _ _ _ _ h => h, fun _ _ _ k h => (let ⟨a, b, c, h1, h2⟩ := h; ⟨a, b, c, h1, h2.ext k⟩), fun _ _ _ _ h => h, fun _ _ _ _ h => h, fun _ _ _ _ h => h⟩
    · refine ⟨⟨fun _ _ => trivial, fun ρ w' hX hG hk => ?_⟩, ?_⟩
      · exact Par.val_of_run rfl ⟨Ext.refl _, hk.1⟩
      refine ⟨⟨fun _ _ => trivial, fun ρ w' hX hG hk => ?_⟩, ?_⟩
      · obtain ⟨k0, k1, -⟩ := hk
        have e0 : ρ (.tmp 41) = Value.int IntKind.i64 0 := k0
        have e1 : ρ (Operand.const (Value.int IntKind.i64 0)) = (Value.int IntKind.i64 0) := k1
        clear k0 k1
        refine Par.val_k fun K hK => ?_
        unfold Par.val
        (go_simp; exact hK _ _ ⟨Ext.refl _, rfl⟩)
      refine ⟨⟨fun _ _ => trivial, fun ρ w' hX hG hk => ?_⟩, ?_⟩
      · exact Par.val_of_run rfl ⟨Ext.refl _, hk.1⟩
      refine ⟨⟨fun _ _ u hu => .inl hu, fun ρ w' hX hG hk => ?_⟩, ?_⟩
      · obtain ⟨k0, -⟩ := hk
        have e0 : ρ (.tmp 9) = pv p9 := k0
        clear k0
        refine Par.val_k fun K hK => ?_
        unfold Par.val
        (obtain ⟨⟨c0, c1, c2, c3, c4, c5, c6, c7, c8, c9⟩, -⟩ := blk10 (hX.obj HC7.out); go_simp; exact hK _ _ ⟨Ext.refl _, rfl⟩)
      refine ⟨⟨fun _ _ u hu => .inl hu, fun ρ w' hX hG hk => ?_⟩, ?_⟩
      · obtain ⟨k0, k1, -⟩ := hk
        have e0 := k0
        have e1 : ρ (.tmp 44) = Value.agg #[uv now, uv next, uv lea, uv trn, uv dth, .slice xi n x1, .slice xd nd x2, .slice xc m x3, uv sg, uv ps] := k1
        clear k0 k1
        refine Par.val_k fun K hK => ?_
        unfold Par.val
        (refine Par.val_call Tryd.func8 (by kernel_rfl) rfl e0 ?_; simp only [List.map_toArray, List.map_cons, List.map_nil, e1]; have hc := own13_any s _ _ _ w' (by have := HQ7.out.ext hX; exact this) HZ.out; rw [HCE.out] at hc; refine hc.mono ?_; rintro e w2 ⟨⟨a, b, c, rfl, h2⟩, hx2⟩; exact ⟨_, rfl, hK _ _ ⟨hx2, a, b, c, rfl, h2⟩⟩)
      refine ⟨⟨fun _ _ u hu => .inl hu, fun ρ w' hX hG hk => ?_⟩, ?_⟩
      · obtain ⟨k0, -⟩ := hk
        have e0 : ρ (.tmp 3) = pv p0 := k0
        clear k0
        refine Par.val_k fun K hK => ?_
        unfold Par.val
        (obtain ⟨⟨c0, c1, c2, c3, c4, c5, c6, c7, c8, c9⟩, -⟩ := blk10 (hX.obj HB7.out); go_simp; exact hK _ _ ⟨Ext.refl _, rfl⟩)
      refine ⟨⟨fun _ _ u hu => .inl hu, fun ρ w' hX hG hk => ?_⟩, ?_⟩
      · obtain ⟨k0, k1, -⟩ := hk
        have e0 := k0
        have e1 : ρ (.tmp 46) = Value.agg #[uv now, uv next, uv lea, uv trn, uv dth, .slice io n ic, .slice do_ nd dc, .slice co m cc, uv sg, uv ps] := k1
        clear k0 k1
        refine Par.val_k fun K hK => ?_
        unfold Par.val
        (refine Par.val_call Tryd.func8 (by kernel_rfl) rfl e0 ?_; simp only [List.map_toArray, List.map_cons, List.map_nil, e1]; have hc := own13_any s _ _ _ w' (by have := HS0.out.ext (HE7.out.trans hX); exact this) HZ.out; rw [HCE.out] at hc; refine hc.mono ?_; rintro e w2 ⟨⟨a, b, c, rfl, h2⟩, hx2⟩; exact ⟨_, rfl, hK _ _ ⟨hx2, a, b, c, rfl, h2⟩⟩)
      refine ⟨⟨fun _ _ u hu => .inl hu, fun ρ w' hX hG hk => ?_⟩, ?_⟩
      · obtain ⟨k0, k1, k2, -⟩ := hk
        have e0 := k0
        have e1 : (fun v w' => ∃ a b c, v = .agg (snpC s a b c) ∧ SnpIn w' s a b c) (ρ (.tmp 45)) w' := k1
        have e2 : (fun v w' => ∃ a b c, v = .agg (snpC s a b c) ∧ SnpIn w' s a b c) (ρ (.tmp 47)) w' := k2
        clear k0 k1 k2
        refine Par.val_k fun K hK => ?_
        unfold Par.val
        (obtain ⟨a1, a2, a3, q1, h1⟩ := e1; obtain ⟨a4, a5, a6, q2, h2⟩ := e2; refine Par.val_call Tryd.func16 (by kernel_rfl) rfl e0 ?_; simp only [List.map_toArray, List.map_cons, List.map_nil, q1, q2]; refine (rsame13_eq s _ _ _ _ _ _ w' h1 h2 (by have := HSM.out; rw [HN.out]; omega)).mono ?_; rintro e w2 ⟨rfl, hx2⟩; exact ⟨_, rfl, hK _ _ ⟨hx2, rfl⟩⟩)
      refine ⟨⟨fun _ _ u hu => .inl hu, fun ρ w' hX hG hk => ?_⟩, ?_⟩
      · obtain ⟨k0, -⟩ := hk
        have e0 : ρ (.tmp 48) = Value.bool true := k0
        clear k0
        refine Par.val_k fun K hK => ?_
        unfold Par.val
        (go_simp; exact hK _ _ ⟨Ext.refl _, rfl⟩)
      refine ⟨⟨fun _ _ => trivial, fun ρ w' hX hG hk => ?_⟩, ?_⟩
      · obtain ⟨k0, k1, k2, -⟩ := hk
        have e0 : ρ (.tmp 43) = Value.bool false := k0
        have e1 : ρ (Operand.const (Value.bool true)) = (Value.bool true) := k1
        have e2 : ρ (.tmp 49) = Value.bool false := k2
        clear k0 k1 k2
        refine Par.val_k fun K hK => ?_
        unfold Par.val
        (go_simp; exact hK _ _ ⟨Ext.refl _, rfl⟩)
      trivial
    intro a' w' inv
    have hX := inv.ext
    have q41 : a'.tmps.getD 41 undef = Value.int IntKind.i64 0 := inv.done 0 _ 41 rfl rfl rfl
    have q42 : a'.tmps.getD 42 undef = Value.bool false := inv.done 1 _ 42 rfl rfl rfl
    have q43 : a'.tmps.getD 43 undef = Value.bool false := inv.done 2 _ 43 rfl rfl rfl
    have q44 : a'.tmps.getD 44 undef = Value.agg #[uv now, uv next, uv lea, uv trn, uv dth, .slice xi n x1, .slice xd nd x2, .slice xc m x3, uv sg, uv ps] := inv.done 3 _ 44 rfl rfl rfl
    have q45 : (fun v w' => ∃ a b c, v = .agg (snpC s a b c) ∧ SnpIn w' s a b c) (a'.tmps.getD 45 undef) w' := inv.done 4 _ 45 rfl rfl rfl
    have q46 : a'.tmps.getD 46 undef = Value.agg #[uv now, uv next, uv lea, uv trn, uv dth, .slice io n ic, .slice do_ nd dc, .slice co m cc, uv sg, uv ps] := inv.done 5 _ 46 rfl rfl rfl
    have q47 : (fun v w' => ∃ a b c, v = .agg (snpC s a b c) ∧ SnpIn w' s a b c) (a'.tmps.getD 47 undef) w' := inv.done 6 _ 47 rfl rfl rfl
    have q48 : a'.tmps.getD 48 undef = Value.bool true := inv.done 7 _ 48 rfl rfl rfl
    have q49 : a'.tmps.getD 49 undef = Value.bool false := inv.done 8 _ 49 rfl rfl rfl
    have q50 : a'.tmps.getD 50 undef = Value.bool false := inv.done 9 _ 50 rfl rfl rfl
    clear inv
    simp only [List.filterMap_cons, List.filterMap_nil, Par.putAll, Act.put, List.setIfInBounds_toArray, List.set_cons_succ, List.set_cons_zero, q41, q42, q43, q44, q46, q48, q49, q50]
    clear q41 q42 q43 q44 q46 q48 q49 q50
    generalize a'.tmps.getD 45 undef = u45 at *
    generalize a'.tmps.getD 47 undef = u47 at *
    clear a'
    have HE8 := hid (HE7.out.trans hX)
    have HP8 := hid (HP7.out.ext hX)
    have hnp1 : 1 ≤ np := by
      rw [← HNP.out]
      unfold saveR
      simp
    have HNP1 := hid hnp1
    clear hX
    obtain ⟨w8, hw8⟩ : ∃ x, x = w' := ⟨_, rfl⟩
    rw [← hw8] at HE8 HP8 ⊢
    clear hw8
    have hcap : np ≤ pc ∧ pc ≤ 9223372036854775807 := by
      obtain ⟨mm, hmm, hr, -⟩ := HP8.out.rcs
      have hml : mm.length = np := by
        have h := congrArg List.length hmm
        rw [List.length_map, HNP.out] at h
        exact h
      obtain ⟨e1, h1, h2, -⟩ := hr.opens
      omega
    obtain ⟨hcap1, hcap2⟩ := hcap
    by_cases q1 : 0 ≤ cut
    case neg =>
      have d1 : decide ((0 : Int) ≤ cut) = false := by simp; omega
      clear q1
      go_wp2_with fail
      obtain ⟨mp, hmp, hown, hinn⟩ := HP8.out
      have hmpl : mp.length = np := by
        have h := congrArg List.length hmp
        rw [List.length_map, HNP.out] at h
        exact h
      obtain ⟨a, rfl⟩ : ∃ a, po = some a := by
        rcases hown.2 with ⟨e, e2⟩ | ⟨g, c, cur, e, _⟩
        · have := HNP1.out; omega
        · cases e; exact ⟨_, rfl⟩
      have hsl0 := Sl.of_owns hown
      obtain ⟨hcpl, hcpm⟩ : np ≤ pc ∧ pc ≤ 9223372036854775807 := by
        obtain ⟨-, ao, cap, e, h3, h4, -⟩ := hsl0
        cases e
        exact ⟨by omega, by simpa [maxLen] using h4⟩
      obtain ⟨k9, hk9⟩ : ∃ k, np = k + 1 := ⟨np - 1, by have := HNP1.out; omega⟩
      have hkl : k9 < mp.length := by omega
      have hlast : (mp[k9]'hkl).1 = ⟨17, [UInt64.ofNat (bodyR s).length], []⟩ := by
        have h1 : (mp.map (·.1))[k9]? = some ((mp[k9]'hkl).1) := by rw [List.getElem?_map, List.getElem?_eq_getElem hkl]; rfl
        rw [hmp] at h1
        have hbl : (bodyR s).length = k9 := by
          have h := HNP.out
          unfold saveR at h
          rw [List.length_append] at h
          simp at h
          omega
        unfold saveR at h1
        rw [List.getElem?_append_right (by omega), hbl, Nat.sub_self] at h1
        have h2 := Option.some.inj h1
        rw [← h2, hbl]
      have hcl : ∀ j u, (rcells (mp[k9]'hkl))[j]? = some u → (w8).cell? (a.add (k9 * 3 + j)) = some u := fun j u hu => by
        have hrows : RowsOf (w8) 3 (.slice (some a) np pc) rcells mp := ⟨fun _ _ => rfl, hsl0⟩
        exact hrows.opens.2.2.2.2 a rfl k9 hkl j u hu
      have hvl := (hinn _ (List.getElem_mem hkl)).vec
      obtain ⟨el, hel⟩ : ∃ x, mp[k9]'hkl = x := ⟨_, rfl⟩
      rw [hel] at hlast hcl hvl
      obtain ⟨⟨kd, ns, tx⟩, r⟩ := el
      dsimp only at hlast hvl
      obtain ⟨rfl, rfl, rfl⟩ : kd = 17 ∧ ns = [UInt64.ofNat (bodyR s).length] ∧ tx = [] := by
        simp only [Rc.mk.injEq] at hlast
        exact hlast
      obtain ⟨ro', rc', rfl, -⟩ := hvl.open
      have kk0 := cell_first (hcl 0 _ rfl)
      have kk1 := cell_next (hcl 1 _ rfl) (by decide)
      have kk2 := cell_next (hcl 2 _ rfl) (by decide)
      dsimp only at kk0 kk1 kk2
      simp only [List.length_cons, List.length_nil, Nat.reduceAdd, Nat.zero_add] at kk1 hvl
      have HKK := hid (And.intro kk0 (And.intro kk1 kk2))
      have HSL0 : Hid (Sl (w8) 3 (.slice (some a) np pc) np (mp.flatMap rcells)) := hid (by rw [hmpl] at hsl0; exact hsl0)
      have HMP := hid hmp
      have HMPL := hid hmpl
      have HVALL : Hid (∀ q ∈ mp ++ [((⟨17, [UInt64.ofNat (bodyR s).length], []⟩ : Rc), Value.slice ro' 1 rc')], Vec uv (w8) q.2 q.1.n) := hid (fun q hq => by
        rcases List.mem_append.1 hq with hq | hq
        · exact (hinn q hq).vec
        · simp at hq; subst hq; exact hvl)
      have hw9 : IntKind.i64.wrap ((np : Int) - 1) = (k9 : Int) := i64v k9 (by omega) (by have := HNB.out; omega)
      have hk91 : (k9 : Int) < (np : Int) := by omega
      have HONE : Hid (∀ y ∈ mp.flatMap rcells, y.oneCell' = true) := hid (fun y hy => by
        obtain ⟨q, hq, hy⟩ := List.mem_flatMap.1 hy
        obtain ⟨ao, cap, e, -⟩ := (hinn q hq).vec.open
        simp [rcells] at hy
        rcases hy with rfl | rfl | rfl
        · rfl
        · rw [e]; rfl
        · rfl)
      clear hmp hown hinn hmpl hsl0 hk9 hkl hlast hcl hvl hel kk0 kk1 kk2
      refine ParE.wp_region_e (l := [_, _, _, _, _, _, _, _, _, _, _, _, _, _, _, _, _, _]) rfl (Rg.Mx (w8) 16 [(0, 69, 2), (2, 71, 10), (9, 78, 10), (10, 79, 11), (11, 80, 12), (15, 13, 16)] (BkQ (w8) mp ro' rc' (UInt64.ofNat (bodyR s).length) np) (fun w' => Ext (w8) w')) (ParC.VC [(fun _ => True), ParC.EQ (Value.slice (some a) np pc), (fun _ => True), ParC.EQ (Value.slice (some a) np pc), ParC.EQ (Value.slice (some a) np pc), ParC.EQ (Value.int IntKind.i64 (np : Int)), ParC.EQ (Value.int IntKind.i64 (k9 : Int)), ParC.EQ (Value.pointer (some (a.add (k9 * 3)))), ParC.EQ (Value.agg #[.int .i64 17, .slice ro' 1 rc', .string ⟨#[]⟩]), (fun _ => True), (fun _ => True), ParC.EQ (Value.tuple #[.agg #[.int .u64 0, .int .u64 0, .int .u64 0, .int .u64 0, .int .u64 0, .slice none 0 0, .slice none 0 0, .slice none 0 0, .int .u64 0, .int .u64 0], .int .i64 2]), ParC.EQ (Value.tuple #[.agg #[.int .u64 0, .int .u64 0, .int .u64 0, .int .u64 0, .int .u64 0, .slice none 0 0, .slice none 0 0, .slice none 0 0, .int .u64 0, .int .u64 0], .int .i64 2]), ParC.EQ (Value.agg #[.int .u64 0, .int .u64 0, .int .u64 0, .int .u64 0, .int .u64 0, .slice none 0 0, .slice none 0 0, .slice none 0 0, .int .u64 0, .int .u64 0]), ParC.EQ (Value.int IntKind.i64 2), (fun _ => True), fun _ => True, ParC.EQ (Value.int IntKind.i64 2)]) (by kernel_rfl) (by kernel_rfl) (Rg.Mx.start BkQ.st) ?_ ?_
      · refine ⟨fun L ρ w' hR hC hL hd hk => ?_, ?_⟩
        · obtain ⟨-⟩ := hk
          skip
          refine Par.val_k fun K hK => ?_
          unfold Par.val
          (have hz := hC.notyet 16 0 hL (by kernel_rfl); have hx := hR.a hz; have HG := hid (hR.grow (i := 0) (d := 69) hz (by decide) (Ext.alloc w' (.cells #[] 62 (0, 0))) ⟨w'.heap.size, rfl, heap_alloc_new _ _, hx.size⟩); go_simp; exact hK _ _ ⟨HG.out, trivial⟩)
        refine ⟨fun L ρ w' hR hC hL hd hk => ?_, ?_⟩
        · exact Par.val_of_run rfl ⟨hR.other (by decide), hk.1⟩
        refine ⟨fun L ρ w' hR hC hL hd hk => ?_, ?_⟩
        · obtain ⟨k0, k1, -⟩ := hk
          have e0 : (fun _ => True) (ρ (.tmp 69))  := k0
          have e1 : ρ (.tmp 70) = Value.slice (some a) np pc := k1
          clear k0 k1
          refine Par.val_k fun K hK => ?_
          unfold Par.val
          (have hz := hC.notyet 16 2 hL (by kernel_rfl); have hx := hR.a hz; obtain ⟨g, eg, hg, hgl⟩ : BkQ (w8) mp ro' rc' (UInt64.ofNat (bodyR s).length) np 69 (ρ (.tmp 69)) w' := hR.get 0 69 2 (by decide) (hC.before 0 (i := 2) rfl hd (by kernel_rfl)) hL; obtain ⟨a9, c9, w9, r1, r2, r3, r4⟩ := run_append_sl (P := Tryd.prog) (World.heap (w8)).size 30 30 62 Tryd.underlying30 infoRc rfl (by decide) (emp_row hg hgl) (HSL0.out.ext hx) HONE.out (by have := HNB.out; simp [maxLen]; omega) (by have := HNB.out; omega) hx.size; rw [← eg, ← e1] at r1; rw [Nat.zero_add] at r1 r2; exact Par.val_append r1 (hK _ _ ⟨hR.app [] [10, 11] [(9, 78, 10), (15, 13, 16)] hz (by simp) (by intro j hj; simp at hj; rcases hj with rfl | rfl; exact hC.notyet 10 2 hL (by kernel_rfl); exact hC.notyet 11 2 hL (by kernel_rfl)) (by decide) (bk_keep r3 r4 hg) (Ext.below hx r4) r2, trivial⟩))
        refine ⟨fun L ρ w' hR hC hL hd hk => ?_, ?_⟩
        · exact Par.val_of_run rfl ⟨hR.other (by decide), hk.1⟩
        refine ⟨fun L ρ w' hR hC hL hd hk => ?_, ?_⟩
        · exact Par.val_of_run rfl ⟨hR.other (by decide), hk.1⟩
        refine ⟨fun L ρ w' hR hC hL hd hk => ?_, ?_⟩
        · obtain ⟨k0, -⟩ := hk
          have e0 : ρ (.tmp 73) = Value.slice (some a) np pc := k0
          clear k0
          refine Par.val_k fun K hK => ?_
          unfold Par.val
          (go_simp; exact hK _ _ ⟨hR.other (by decide), rfl⟩)
        refine ⟨fun L ρ w' hR hC hL hd hk => ?_, ?_⟩
        · obtain ⟨k0, k1, -⟩ := hk
          have e0 : ρ (.tmp 74) = Value.int IntKind.i64 (np : Int) := k0
          have e1 : ρ (Operand.const (Value.int IntKind.i64 1)) = (Value.int IntKind.i64 1) := k1
          clear k0 k1
          refine Par.val_k fun K hK => ?_
          unfold Par.val
          (go_simp; exact hK _ _ ⟨hR.other (by decide), rfl⟩)
        refine ⟨fun L ρ w' hR hC hL hd hk => ?_, ?_⟩
        · obtain ⟨k0, k1, -⟩ := hk
          have e0 : ρ (.tmp 72) = Value.slice (some a) np pc := k0
          have e1 : ρ (.tmp 75) = Value.int IntKind.i64 (k9 : Int) := k1
          clear k0 k1
          refine Par.val_k fun K hK => ?_
          unfold Par.val
          (go_simp; exact hK _ _ ⟨hR.other (by decide), rfl⟩)
        refine ⟨fun L ρ w' hR hC hL hd hk => ?_, ?_⟩
        · obtain ⟨k0, -⟩ := hk
          have e0 : ρ (.tmp 76) = Value.pointer (some (a.add (k9 * 3))) := k0
          clear k0
          refine Par.val_k fun K hK => ?_
          unfold Par.val
          (have hx := hR.a (hC.notyet 16 8 hL (by kernel_rfl)); have c0 := hx.cell HKK.out.1; have c1 := hx.cell HKK.out.2.1; have c2 := hx.cell HKK.out.2.2; go_simp; exact hK _ _ ⟨hR.other (by decide), rfl⟩)
        refine ⟨fun L ρ w' hR hC hL hd hk => ?_, ?_⟩
        · obtain ⟨k0, -⟩ := hk
          have e0 : ρ (.tmp 77) = Value.agg #[.int .i64 17, .slice ro' 1 rc', .string ⟨#[]⟩] := k0
          clear k0
          refine Par.val_k fun K hK => ?_
          unfold Par.val
          (have hz := hC.notyet 16 9 hL (by kernel_rfl); have hx := hR.a hz; have HG := hid (hR.grow (i := 9) (d := 78) hz (by decide) (Ext.alloc w' (.cells #[.int .i64 17, .slice ro' 1 rc', .string ⟨#[]⟩] 62 (0, 0))) ⟨w'.heap.size, rfl, heap_alloc_new _ _⟩); go_simp; exact hK _ _ ⟨HG.out, trivial⟩)
        refine ⟨fun L ρ w' hR hC hL hd hk => ?_, ?_⟩
        · obtain ⟨k0, k1, -⟩ := hk
          have e0 : (fun _ => True) (ρ (.tmp 71))  := k0
          have e1 : (fun _ => True) (ρ (.tmp 78))  := k1
          clear k0 k1
          refine Par.val_k fun K hK => ?_
          unfold Par.val
          (have hz := hC.notyet 16 10 hL (by kernel_rfl); have hx := hR.a hz; have h71 : BkQ (w8) mp ro' rc' (UInt64.ofNat (bodyR s).length) np 71 (ρ (.tmp 71)) w' := hR.get 2 71 10 (by decide) (hC.before 2 (i := 10) rfl hd (by kernel_rfl)) hL; obtain ⟨g, eg, hg⟩ : BkQ (w8) mp ro' rc' (UInt64.ofNat (bodyR s).length) np 78 (ρ (.tmp 78)) w' := hR.get 9 78 10 (by decide) (hC.before 9 (i := 10) rfl hd (by kernel_rfl)) hL; obtain ⟨a9, c9, w9, r1, r2, r3, r4⟩ := run_append_sl (P := Tryd.prog) (World.heap (w8)).size 30 30 62 Tryd.underlying30 infoRc rfl (by decide) h71 (blk_slk (k := 1) (cs := [.int .i64 17, .slice ro' 1 rc', .string ⟨#[]⟩]) hg rfl (by decide)) (by intro y hy; simp at hy; rcases hy with rfl | rfl | rfl <;> rfl) (by have := HNB.out; simp [maxLen]; omega) (by have := HNB.out; omega) hx.size; rw [← eg] at r1; exact Par.val_append r1 (hK _ _ ⟨hR.app [2] [11] [(15, 13, 16)] hz (by intro j hj; simp at hj; subst hj; exact hC.before 2 (i := 10) rfl hd (by kernel_rfl)) (by intro j hj; simp at hj; subst hj; exact hC.notyet 11 10 hL (by kernel_rfl)) (by decide) (bk_keep2 r3 r4 h71) (Ext.below hx r4) r2, trivial⟩))
        refine ⟨fun L ρ w' hR hC hL hd hk => ?_, ?_⟩
        · obtain ⟨k0, k1, -⟩ := hk
          have e0 := k0
          have e1 : (fun _ => True) (ρ (.tmp 79))  := k1
          clear k0 k1
          refine Par.val_k fun K hK => ?_
          unfold Par.val
          (have hz := hC.notyet 16 11 hL (by kernel_rfl); have hx := hR.a hz; have h79 : BkQ (w8) mp ro' rc' (UInt64.ofNat (bodyR s).length) np 79 (ρ (.tmp 79)) w' := hR.get 10 79 11 (by decide) (hC.before 10 (i := 11) rfl hd (by kernel_rfl)) hL; have hrc : Rcs w' (ρ (.tmp 79)) (saveR s ++ [⟨17, [UInt64.ofNat (bodyR s).length], []⟩]) := bk_rcs h79 HMPL.out HMP.out (fun q hq => (HVALL.out q hq).ext hx); refine Par.val_call Tryd.func12 (by kernel_rfl) rfl e0 ?_; simp only [List.map_toArray, List.map_cons, List.map_nil]; refine (load_any _ _ w' hrc (by rw [List.length_append, HNP.out]; have := HNB.out; simp; omega) (HT.out.ext (HE8.out.trans hx))).mono ?_; rintro e w2 hp; unfold LdP at hp; rw [load_more] at hp; obtain ⟨rfl, hx2⟩ := hp; exact ⟨_, rfl, hK _ _ ⟨hR.grow (i := 11) (d := 80) hz (by decide) hx2 trivial, rfl⟩⟩)
        refine ⟨fun L ρ w' hR hC hL hd hk => ?_, ?_⟩
        · exact Par.val_of_run rfl ⟨hR.other (by decide), hk.1⟩
        refine ⟨fun L ρ w' hR hC hL hd hk => ?_, ?_⟩
        · obtain ⟨k0, -⟩ := hk
          have e0 : ρ (.tmp 68) = Value.tuple #[.agg #[.int .u64 0, .int .u64 0, .int .u64 0, .int .u64 0, .int .u64 0, .slice none 0 0, .slice none 0 0, .slice none 0 0, .int .u64 0, .int .u64 0], .int .i64 2] := k0
          clear k0
          refine Par.val_k fun K hK => ?_
          unfold Par.val
          (go_simp; exact hK _ _ ⟨hR.other (by decide), rfl⟩)
        refine ⟨fun L ρ w' hR hC hL hd hk => ?_, ?_⟩
        · obtain ⟨k0, -⟩ := hk
          have e0 : ρ (.tmp 68) = Value.tuple #[.agg #[.int .u64 0, .int .u64 0, .int .u64 0, .int .u64 0, .int .u64 0, .slice none 0 0, .slice none 0 0, .slice none 0 0, .int .u64 0, .int .u64 0], .int .i64 2] := k0
          clear k0
          refine Par.val_k fun K hK => ?_
          unfold Par.val
          (go_simp; exact hK _ _ ⟨hR.other (by decide), rfl⟩)
        refine ⟨fun L ρ w' hR hC hL hd hk => ?_, ?_⟩
        · obtain ⟨-⟩ := hk
          skip
          refine Par.val_k fun K hK => ?_
          unfold Par.val
          (have hz := hC.notyet 16 15 hL (by kernel_rfl); have hx := hR.a hz; have HG := hid (hR.grow (i := 15) (d := 13) hz (by decide) (Ext.alloc w' (.cells #[.int .u64 0, .int .u64 0, .int .u64 0, .int .u64 0, .int .u64 0, .slice none 0 0, .slice none 0 0, .slice none 0 0, .int .u64 0, .int .u64 0] 29 (0, 0))) ⟨w'.heap.size, rfl, heap_alloc_new _ _, hx.size⟩); go_simp; exact hK _ _ ⟨HG.out, trivial⟩)
        refine ⟨fun L ρ w' hR hC hL hd hk => ?_, ?_⟩
        · obtain ⟨k0, k1, -⟩ := hk
          have e0 : (fun _ => True) (ρ (.tmp 13))  := k0
          have e1 : ρ (.tmp 81) = Value.agg #[.int .u64 0, .int .u64 0, .int .u64 0, .int .u64 0, .int .u64 0, .slice none 0 0, .slice none 0 0, .slice none 0 0, .int .u64 0, .int .u64 0] := k1
          clear k0 k1
          refine Par.val_k fun K hK => ?_
          unfold Par.val
          (have hx := hR.a hL; have hg4 : BkQ (w8) mp ro' rc' (UInt64.ofNat (bodyR s).length) np 13 (ρ (.tmp 13)) w' := hR.get 15 13 16 (by decide) (hC.before 15 (i := 16) rfl hd (by kernel_rfl)) hL; obtain ⟨qb, s4, hqb, hqs⟩ := hg4; obtain ⟨⟨z0, z1, z2, z3, z4, z5, z6, z7, z8, z9⟩, zf⟩ := blk10 hqb; have HF9 := hid (Ext.below hx ((set10_fr w' qb (.int .u64 0) (.int .u64 0) (.int .u64 0) (.int .u64 0) (.int .u64 0) (.slice none 0 0) (.slice none 0 0) (.slice none 0 0) (.int .u64 0) (.int .u64 0)).below (by simp; exact hqs) hx.size)); clear hqs hqb hx; go_simp; exact hK _ _ ⟨hR.last [2, 10, 11, 12] (by intro j hj; simp at hj; rcases hj with rfl | rfl | rfl | rfl; exact hC.before 2 (i := 16) rfl hd (by kernel_rfl); exact hC.before 10 (i := 16) rfl hd (by kernel_rfl); exact hC.before 11 (i := 16) rfl hd (by kernel_rfl); exact hC.before 12 (i := 16) rfl hd (by kernel_rfl)) (by decide) HF9.out, trivial⟩)
        refine ⟨fun L ρ w' hR hC hL hd hk => ?_, ?_⟩
        · exact Par.val_of_run rfl ⟨hR.other (by decide), hk.1⟩
        trivial
      intro a' w' inv hR
      have q69 : (fun _ => True) (a'.tmps.getD 69 undef)  := inv.done 0 _ 69 rfl rfl rfl
      have q70 : a'.tmps.getD 70 undef = Value.slice (some a) np pc := inv.done 1 _ 70 rfl rfl rfl
      have q71 : (fun _ => True) (a'.tmps.getD 71 undef)  := inv.done 2 _ 71 rfl rfl rfl
      have q72 : a'.tmps.getD 72 undef = Value.slice (some a) np pc := inv.done 3 _ 72 rfl rfl rfl
      have q73 : a'.tmps.getD 73 undef = Value.slice (some a) np pc := inv.done 4 _ 73 rfl rfl rfl
      have q74 : a'.tmps.getD 74 undef = Value.int IntKind.i64 (np : Int) := inv.done 5 _ 74 rfl rfl rfl
      have q75 : a'.tmps.getD 75 undef = Value.int IntKind.i64 (k9 : Int) := inv.done 6 _ 75 rfl rfl rfl
      have q76 : a'.tmps.getD 76 undef = Value.pointer (some (a.add (k9 * 3))) := inv.done 7 _ 76 rfl rfl rfl
      have q77 : a'.tmps.getD 77 undef = Value.agg #[.int .i64 17, .slice ro' 1 rc', .string ⟨#[]⟩] := inv.done 8 _ 77 rfl rfl rfl
      have q78 : (fun _ => True) (a'.tmps.getD 78 undef)  := inv.done 9 _ 78 rfl rfl rfl
      have q79 : (fun _ => True) (a'.tmps.getD 79 undef)  := inv.done 10 _ 79 rfl rfl rfl
      have q80 : a'.tmps.getD 80 undef = Value.tuple #[.agg #[.int .u64 0, .int .u64 0, .int .u64 0, .int .u64 0, .int .u64 0, .slice none 0 0, .slice none 0 0, .slice none 0 0, .int .u64 0, .int .u64 0], .int .i64 2] := inv.done 11 _ 80 rfl rfl rfl
      have q68 : a'.tmps.getD 68 undef = Value.tuple #[.agg #[.int .u64 0, .int .u64 0, .int .u64 0, .int .u64 0, .int .u64 0, .slice none 0 0, .slice none 0 0, .slice none 0 0, .int .u64 0, .int .u64 0], .int .i64 2] := inv.done 12 _ 68 rfl rfl rfl
      have q81 : a'.tmps.getD 81 undef = Value.agg #[.int .u64 0, .int .u64 0, .int .u64 0, .int .u64 0, .int .u64 0, .slice none 0 0, .slice none 0 0, .slice none 0 0, .int .u64 0, .int .u64 0] := inv.done 13 _ 81 rfl rfl rfl
      have q82 : a'.tmps.getD 82 undef = Value.int IntKind.i64 2 := inv.done 14 _ 82 rfl rfl rfl
      have q13 : (fun _ => True) (a'.tmps.getD 13 undef)  := inv.done 15 _ 13 rfl rfl rfl
      have q14 : a'.tmps.getD 14 undef = Value.int IntKind.i64 2 := inv.done 17 _ 14 rfl rfl rfl
      clear inv
      simp only [List.filterMap_cons, List.filterMap_nil, Par.putAll, Act.put, List.setIfInBounds_toArray, List.set_cons_succ, List.set_cons_zero, q70, q72, q73, q74, q75, q76, q77, q80, q68, q81, q82, q14]
      clear q70 q72 q73 q74 q75 q76 q77 q80 q68 q81 q82 q14
      have hx9 := Rg.Mx.fin hR (by decide); have HEZ := hid (HE8.out.trans hx9); clear hx9 hR
      generalize a'.tmps.getD 69 undef = u69 at *
      generalize a'.tmps.getD 71 undef = u71 at *
      generalize a'.tmps.getD 78 undef = u78 at *
      generalize a'.tmps.getD 79 undef = u79 at *
      generalize a'.tmps.getD 13 undef = u13 at *
      try clear a'
      clear hw9 hk91 hcpl hcpm
      have HC := hid (load_any _ l w' (HRL.out.ext HEZ.out) (by have := HLL.out; omega) (HT.out.ext HEZ.out))
      obtain ⟨q, hq⟩ : ∃ q, loadR l = q := ⟨_, rfl⟩
      have HQ := hid hq
      clear hq
      go_wp2_with fail
      refine HC.out.mono ?_
      rintro e wt hp
      unfold LdP at hp
      rw [HQ.out] at hp
      clear HC
      cases q with
      | none =>
        obtain ⟨rfl, hx⟩ := hp
        have HET := hid (HEZ.out.trans hx)
        obtain ⟨⟨c0, c1, c2, c3, c4, c5, c6, c7, c8, c9⟩, -⟩ := blk10 (heap_alloc_new wt (.cells #[.int .u64 0, .int .u64 0, .int .u64 0, .int .u64 0, .int .u64 0, .slice none 0 0, .slice none 0 0, .slice none 0 0, .int .u64 0, .int .u64 0] 29 (0, 0)))
        clear hx
        go_wp2
        go_returns
        exact ⟨by first | rfl | simp, HET.out.trans (Ext.alloc _ _)⟩
      | some u =>
        obtain ⟨⟨ui', ud', uc', rfl, hin⟩, hx⟩ := hp
        obtain ⟨yi, y1, yd, y2, yc, y3, rfl, rfl, rfl⟩ := snp_shape hin
        have HIN := hid hin
        have HET := hid (HEZ.out.trans hx)
        have HLS := hid (load_some HQ.out)
        obtain ⟨u0, u1, u2, u3, u4, uit, udd, ucu, u5, u6⟩ := u
        obtain ⟨k1, hk1⟩ : ∃ x, uit.length = x := ⟨_, rfl⟩
        obtain ⟨k2, hk2⟩ : ∃ x, udd.length = x := ⟨_, rfl⟩
        obtain ⟨k3, hk3⟩ : ∃ x, ucu.length = x := ⟨_, rfl⟩
        have HUE : Hid (∀ a b c, snpC ⟨u0, u1, u2, u3, u4, uit, udd, ucu, u5, u6⟩ a b c = #[uv u0, uv u1, uv u2, uv u3, uv u4, a, b, c, uv u5, uv u6]) := hid (fun a b c => rfl)
        rw [HUE.out]
        dsimp only at HIN ⊢
        rw [hk1, hk2, hk3] at HIN ⊢
        have HK1 := hid hk1
        have HK2 := hid hk2
        have HK3 := hid hk3
        obtain ⟨WT, hWT⟩ : ∃ W, wt.alloc (.cells #[uv u0, uv u1, uv u2, uv u3, uv u4, .slice yi k1 y1, .slice yd k2 y2, .slice yc k3 y3, uv u5, uv u6] 29 (0, 0)) = W := ⟨_, rfl⟩
        have hET := Ext.alloc wt (.cells #[uv u0, uv u1, uv u2, uv u3, uv u4, .slice yi k1 y1, .slice yd k2 y2, .slice yc k3 y3, uv u5, uv u6] 29 (0, 0))
        have hbT := heap_alloc_new wt (.cells #[uv u0, uv u1, uv u2, uv u3, uv u4, .slice yi k1 y1, .slice yd k2 y2, .slice yc k3 y3, uv u5, uv u6] 29 (0, 0))
        rw [hWT] at hET hbT
        obtain ⟨⟨c0, c1, c2, c3, c4, c5, c6, c7, c8, c9⟩, -⟩ := blk10 hbT
        have HEU := hid (HET.out.trans hET)
        have hll := HLS.out.2
        have hsz : uit.length ≤ 300 ∧ udd.length ≤ 300 ∧ ucu.length ≤ 300 := by
          have h := congrArg List.length HLS.out.2
          have h2 := HLL.out
          unfold saveR bodyR at h
          simp only [List.length_append, List.length_map, List.length_cons, List.length_nil] at h
          omega
        have hsv := (show Calls Tryd.prog _ _ WT (fun e w' => (∃ v, e = .returned (.tuple #[v, .int .i64 0]) ∧ RcsO w' WT.heap.size 62 v l) ∧ Ext WT w') from (save_any ⟨u0, u1, u2, u3, u4, uit, udd, ucu, u5, u6⟩ _ _ _ WT (HIN.out.ext hET) (by dsimp only; omega)).mono fun e w' h => by
          rw [HLS.out.1, HLS.out.2, if_pos (show true = true from rfl)] at h
          exact h)
        rw [HUE.out] at hsv
        have HC := hid hsv
        clear hx hin hk1 hk2 hk3 hET hbT hll hsz hsv
        go_wp2_with (first | rw [hWT] | fail)
        refine HC.out.mono ?_
        rintro e wu ⟨⟨v6, rfl, ho⟩, hx⟩
        obtain ⟨ro, rc, rfl⟩ := ho.open
        have HEV := hid (HEU.out.trans hx)
        have HO6 := hid ho
        clear ho hx HC hWT c0 c1 c2 c3 c4 c5 c6 c7 c8 c9
        have HC := hid (owns13_any _ l wu HO6.out.rcs (by have := HLL.out; omega))
        go_wp2_with fail
        refine HC.out.mono ?_
        rintro e wv ⟨⟨u7, rfl, h7⟩, hx⟩
        have HEW := hid (HEV.out.trans hx)
        have H7 := hid h7
        obtain ⟨s7, n7, k7, rfl⟩ : ∃ a b c, u7 = .slice a b c := by
          obtain ⟨mm, _, hr, -⟩ := h7
          obtain ⟨ao, cap, rfl, -⟩ := hr.open
          exact ⟨_, _, _, rfl⟩
        clear h7 hx HC HO6
        have HC := hid (owns13_any _ l wv (HRL.out.ext HEW.out) (by have := HLL.out; omega))
        go_wp2_with fail
        refine HC.out.mono ?_
        rintro e wx ⟨⟨u8, rfl, h8⟩, hx⟩
        have HEX := hid (HEW.out.trans hx)
        have H7x := hid (H7.out.ext hx)
        have H8 := hid h8
        obtain ⟨s8, n8, k8, rfl⟩ : ∃ a b c, u8 = .slice a b c := by
          obtain ⟨mm, _, hr, -⟩ := h8
          obtain ⟨ao, cap, rfl, -⟩ := hr.open
          exact ⟨_, _, _, rfl⟩
        clear h8 hx HC H7
        have hc := rsames5_any _ _ l l wx H7x.out H8.out (by have := HLL.out; omega) (by have := HLL.out; omega)
        rw [recsame_eq rfl] at hc
        have HC := hid hc
        clear hc
        go_wp2_with fail
        refine HC.out.mono ?_
        rintro e wy ⟨rfl, hx⟩
        have HEY := hid (HEX.out.trans hx)
        clear hx HC
        go_wp2
        go_returns
        exact ⟨by first | rfl | simp, HEY.out⟩
    obtain ⟨kc, rfl⟩ : ∃ k : Nat, cut = (k : Int) := ⟨cut.toNat, by omega⟩
    have d1 : decide ((0 : Int) ≤ (kc : Int)) = true := by simp
    by_cases q2 : kc < np
    case neg =>
      have d2 : decide ((kc : Int) < (np : Int)) = false := by simp; omega
      have d2n : decide (kc < np) = false := by simp; omega
      have d2p : (kc < np) = False := by simp; omega
      clear q1 q2
      go_wp2_with fail
      obtain ⟨mp, hmp, hown, hinn⟩ := HP8.out
      have hmpl : mp.length = np := by
        have h := congrArg List.length hmp
        rw [List.length_map, HNP.out] at h
        exact h
      obtain ⟨a, rfl⟩ : ∃ a, po = some a := by
        rcases hown.2 with ⟨e, e2⟩ | ⟨g, c, cur, e, _⟩
        · have := HNP1.out; omega
        · cases e; exact ⟨_, rfl⟩
      have hsl0 := Sl.of_owns hown
      obtain ⟨hcpl, hcpm⟩ : np ≤ pc ∧ pc ≤ 9223372036854775807 := by
        obtain ⟨-, ao, cap, e, h3, h4, -⟩ := hsl0
        cases e
        exact ⟨by omega, by simpa [maxLen] using h4⟩
      obtain ⟨k9, hk9⟩ : ∃ k, np = k + 1 := ⟨np - 1, by have := HNP1.out; omega⟩
      have hkl : k9 < mp.length := by omega
      have hlast : (mp[k9]'hkl).1 = ⟨17, [UInt64.ofNat (bodyR s).length], []⟩ := by
        have h1 : (mp.map (·.1))[k9]? = some ((mp[k9]'hkl).1) := by rw [List.getElem?_map, List.getElem?_eq_getElem hkl]; rfl
        rw [hmp] at h1
        have hbl : (bodyR s).length = k9 := by
          have h := HNP.out
          unfold saveR at h
          rw [List.length_append] at h
          simp at h
          omega
        unfold saveR at h1
        rw [List.getElem?_append_right (by omega), hbl, Nat.sub_self] at h1
        have h2 := Option.some.inj h1
        rw [← h2, hbl]
      have hcl : ∀ j u, (rcells (mp[k9]'hkl))[j]? = some u → (w8).cell? (a.add (k9 * 3 + j)) = some u := fun j u hu => by
        have hrows : RowsOf (w8) 3 (.slice (some a) np pc) rcells mp := ⟨fun _ _ => rfl, hsl0⟩
        exact hrows.opens.2.2.2.2 a rfl k9 hkl j u hu
      have hvl := (hinn _ (List.getElem_mem hkl)).vec
      obtain ⟨el, hel⟩ : ∃ x, mp[k9]'hkl = x := ⟨_, rfl⟩
      rw [hel] at hlast hcl hvl
      obtain ⟨⟨kd, ns, tx⟩, r⟩ := el
      dsimp only at hlast hvl
      obtain ⟨rfl, rfl, rfl⟩ : kd = 17 ∧ ns = [UInt64.ofNat (bodyR s).length] ∧ tx = [] := by
        simp only [Rc.mk.injEq] at hlast
        exact hlast
      obtain ⟨ro', rc', rfl, -⟩ := hvl.open
      have kk0 := cell_first (hcl 0 _ rfl)
      have kk1 := cell_next (hcl 1 _ rfl) (by decide)
      have kk2 := cell_next (hcl 2 _ rfl) (by decide)
      dsimp only at kk0 kk1 kk2
      simp only [List.length_cons, List.length_nil, Nat.reduceAdd, Nat.zero_add] at kk1 hvl
      have HKK := hid (And.intro kk0 (And.intro kk1 kk2))
      have HSL0 : Hid (Sl (w8) 3 (.slice (some a) np pc) np (mp.flatMap rcells)) := hid (by rw [hmpl] at hsl0; exact hsl0)
      have HMP := hid hmp
      have HMPL := hid hmpl
      have HVALL : Hid (∀ q ∈ mp ++ [((⟨17, [UInt64.ofNat (bodyR s).length], []⟩ : Rc), Value.slice ro' 1 rc')], Vec uv (w8) q.2 q.1.n) := hid (fun q hq => by
        rcases List.mem_append.1 hq with hq | hq
        · exact (hinn q hq).vec
        · simp at hq; subst hq; exact hvl)
      have hw9 : IntKind.i64.wrap ((np : Int) - 1) = (k9 : Int) := i64v k9 (by omega) (by have := HNB.out; omega)
      have hk91 : (k9 : Int) < (np : Int) := by omega
      have HONE : Hid (∀ y ∈ mp.flatMap rcells, y.oneCell' = true) := hid (fun y hy => by
        obtain ⟨q, hq, hy⟩ := List.mem_flatMap.1 hy
        obtain ⟨ao, cap, e, -⟩ := (hinn q hq).vec.open
        simp [rcells] at hy
        rcases hy with rfl | rfl | rfl
        · rfl
        · rw [e]; rfl
        · rfl)
      clear hmp hown hinn hmpl hsl0 hk9 hkl hlast hcl hvl hel kk0 kk1 kk2
      refine ParE.wp_region_e (l := [_, _, _, _, _, _, _, _, _, _, _, _, _, _, _, _, _, _]) rfl (Rg.Mx (w8) 16 [(0, 69, 2), (2, 71, 10), (9, 78, 10), (10, 79, 11), (11, 80, 12), (15, 13, 16)] (BkQ (w8) mp ro' rc' (UInt64.ofNat (bodyR s).length) np) (fun w' => Ext (w8) w')) (ParC.VC [(fun _ => True), ParC.EQ (Value.slice (some a) np pc), (fun _ => True), ParC.EQ (Value.slice (some a) np pc), ParC.EQ (Value.slice (some a) np pc), ParC.EQ (Value.int IntKind.i64 (np : Int)), ParC.EQ (Value.int IntKind.i64 (k9 : Int)), ParC.EQ (Value.pointer (some (a.add (k9 * 3)))), ParC.EQ (Value.agg #[.int .i64 17, .slice ro' 1 rc', .string ⟨#[]⟩]), (fun _ => True), (fun _ => True), ParC.EQ (Value.tuple #[.agg #[.int .u64 0, .int .u64 0, .int .u64 0, .int .u64 0, .int .u64 0, .slice none 0 0, .slice none 0 0, .slice none 0 0, .int .u64 0, .int .u64 0], .int .i64 2]), ParC.EQ (Value.tuple #[.agg #[.int .u64 0, .int .u64 0, .int .u64 0, .int .u64 0, .int .u64 0, .slice none 0 0, .slice none 0 0, .slice none 0 0, .int .u64 0, .int .u64 0], .int .i64 2]), ParC.EQ (Value.agg #[.int .u64 0, .int .u64 0, .int .u64 0, .int .u64 0, .int .u64 0, .slice none 0 0, .slice none 0 0, .slice none 0 0, .int .u64 0, .int .u64 0]), ParC.EQ (Value.int IntKind.i64 2), (fun _ => True), fun _ => True, ParC.EQ (Value.int IntKind.i64 2)]) (by kernel_rfl) (by kernel_rfl) (Rg.Mx.start BkQ.st) ?_ ?_
      · refine ⟨fun L ρ w' hR hC hL hd hk => ?_, ?_⟩
        · obtain ⟨-⟩ := hk
          skip
          refine Par.val_k fun K hK => ?_
          unfold Par.val
          (have hz := hC.notyet 16 0 hL (by kernel_rfl); have hx := hR.a hz; have HG := hid (hR.grow (i := 0) (d := 69) hz (by decide) (Ext.alloc w' (.cells #[] 62 (0, 0))) ⟨w'.heap.size, rfl, heap_alloc_new _ _, hx.size⟩); go_simp; exact hK _ _ ⟨HG.out, trivial⟩)
        refine ⟨fun L ρ w' hR hC hL hd hk => ?_, ?_⟩
        · exact Par.val_of_run rfl ⟨hR.other (by decide), hk.1⟩
        refine ⟨fun L ρ w' hR hC hL hd hk => ?_, ?_⟩
        · obtain ⟨k0, k1, -⟩ := hk
          have e0 : (fun _ => True) (ρ (.tmp 69))  := k0
          have e1 : ρ (.tmp 70) = Value.slice (some a) np pc := k1
          clear k0 k1
          refine Par.val_k fun K hK => ?_
          unfold Par.val
          (have hz := hC.notyet 16 2 hL (by kernel_rfl); have hx := hR.a hz; obtain ⟨g, eg, hg, hgl⟩ : BkQ (w8) mp ro' rc' (UInt64.ofNat (bodyR s).length) np 69 (ρ (.tmp 69)) w' := hR.get 0 69 2 (by decide) (hC.before 0 (i := 2) rfl hd (by kernel_rfl)) hL; obtain ⟨a9, c9, w9, r1, r2, r3, r4⟩ := run_append_sl (P := Tryd.prog) (World.heap (w8)).size 30 30 62 Tryd.underlying30 infoRc rfl (by decide) (emp_row hg hgl) (HSL0.out.ext hx) HONE.out (by have := HNB.out; simp [maxLen]; omega) (by have := HNB.out; omega) hx.size; rw [← eg, ← e1] at r1; rw [Nat.zero_add] at r1 r2; exact Par.val_append r1 (hK _ _ ⟨hR.app [] [10, 11] [(9, 78, 10), (15, 13, 16)] hz (by simp) (by intro j hj; simp at hj; rcases hj with rfl | rfl; exact hC.notyet 10 2 hL (by kernel_rfl); exact hC.notyet 11 2 hL (by kernel_rfl)) (by decide) (bk_keep r3 r4 hg) (Ext.below hx r4) r2, trivial⟩))
        refine ⟨fun L ρ w' hR hC hL hd hk => ?_, ?_⟩
        · exact Par.val_of_run rfl ⟨hR.other (by decide), hk.1⟩
        refine ⟨fun L ρ w' hR hC hL hd hk => ?_, ?_⟩
        · exact Par.val_of_run rfl ⟨hR.other (by decide), hk.1⟩
        refine ⟨fun L ρ w' hR hC hL hd hk => ?_, ?_⟩
        · obtain ⟨k0, -⟩ := hk
          have e0 : ρ (.tmp 73) = Value.slice (some a) np pc := k0
          clear k0
          refine Par.val_k fun K hK => ?_
          unfold Par.val
          (go_simp; exact hK _ _ ⟨hR.other (by decide), rfl⟩)
        refine ⟨fun L ρ w' hR hC hL hd hk => ?_, ?_⟩
        · obtain ⟨k0, k1, -⟩ := hk
          have e0 : ρ (.tmp 74) = Value.int IntKind.i64 (np : Int) := k0
          have e1 : ρ (Operand.const (Value.int IntKind.i64 1)) = (Value.int IntKind.i64 1) := k1
          clear k0 k1
          refine Par.val_k fun K hK => ?_
          unfold Par.val
          (go_simp; exact hK _ _ ⟨hR.other (by decide), rfl⟩)
        refine ⟨fun L ρ w' hR hC hL hd hk => ?_, ?_⟩
        · obtain ⟨k0, k1, -⟩ := hk
          have e0 : ρ (.tmp 72) = Value.slice (some a) np pc := k0
          have e1 : ρ (.tmp 75) = Value.int IntKind.i64 (k9 : Int) := k1
          clear k0 k1
          refine Par.val_k fun K hK => ?_
          unfold Par.val
          (go_simp; exact hK _ _ ⟨hR.other (by decide), rfl⟩)
        refine ⟨fun L ρ w' hR hC hL hd hk => ?_, ?_⟩
        · obtain ⟨k0, -⟩ := hk
          have e0 : ρ (.tmp 76) = Value.pointer (some (a.add (k9 * 3))) := k0
          clear k0
          refine Par.val_k fun K hK => ?_
          unfold Par.val
          (have hx := hR.a (hC.notyet 16 8 hL (by kernel_rfl)); have c0 := hx.cell HKK.out.1; have c1 := hx.cell HKK.out.2.1; have c2 := hx.cell HKK.out.2.2; go_simp; exact hK _ _ ⟨hR.other (by decide), rfl⟩)
        refine ⟨fun L ρ w' hR hC hL hd hk => ?_, ?_⟩
        · obtain ⟨k0, -⟩ := hk
          have e0 : ρ (.tmp 77) = Value.agg #[.int .i64 17, .slice ro' 1 rc', .string ⟨#[]⟩] := k0
          clear k0
          refine Par.val_k fun K hK => ?_
          unfold Par.val
          (have hz := hC.notyet 16 9 hL (by kernel_rfl); have hx := hR.a hz; have HG := hid (hR.grow (i := 9) (d := 78) hz (by decide) (Ext.alloc w' (.cells #[.int .i64 17, .slice ro' 1 rc', .string ⟨#[]⟩] 62 (0, 0))) ⟨w'.heap.size, rfl, heap_alloc_new _ _⟩); go_simp; exact hK _ _ ⟨HG.out, trivial⟩)
        refine ⟨fun L ρ w' hR hC hL hd hk => ?_, ?_⟩
        · obtain ⟨k0, k1, -⟩ := hk
          have e0 : (fun _ => True) (ρ (.tmp 71))  := k0
          have e1 : (fun _ => True) (ρ (.tmp 78))  := k1
          clear k0 k1
          refine Par.val_k fun K hK => ?_
          unfold Par.val
          (have hz := hC.notyet 16 10 hL (by kernel_rfl); have hx := hR.a hz; have h71 : BkQ (w8) mp ro' rc' (UInt64.ofNat (bodyR s).length) np 71 (ρ (.tmp 71)) w' := hR.get 2 71 10 (by decide) (hC.before 2 (i := 10) rfl hd (by kernel_rfl)) hL; obtain ⟨g, eg, hg⟩ : BkQ (w8) mp ro' rc' (UInt64.ofNat (bodyR s).length) np 78 (ρ (.tmp 78)) w' := hR.get 9 78 10 (by decide) (hC.before 9 (i := 10) rfl hd (by kernel_rfl)) hL; obtain ⟨a9, c9, w9, r1, r2, r3, r4⟩ := run_append_sl (P := Tryd.prog) (World.heap (w8)).size 30 30 62 Tryd.underlying30 infoRc rfl (by decide) h71 (blk_slk (k := 1) (cs := [.int .i64 17, .slice ro' 1 rc', .string ⟨#[]⟩]) hg rfl (by decide)) (by intro y hy; simp at hy; rcases hy with rfl | rfl | rfl <;> rfl) (by have := HNB.out; simp [maxLen]; omega) (by have := HNB.out; omega) hx.size; rw [← eg] at r1; exact Par.val_append r1 (hK _ _ ⟨hR.app [2] [11] [(15, 13, 16)] hz (by intro j hj; simp at hj; subst hj; exact hC.before 2 (i := 10) rfl hd (by kernel_rfl)) (by intro j hj; simp at hj; subst hj; exact hC.notyet 11 10 hL (by kernel_rfl)) (by decide) (bk_keep2 r3 r4 h71) (Ext.below hx r4) r2, trivial⟩))
        refine ⟨fun L ρ w' hR hC hL hd hk => ?_, ?_⟩
        · obtain ⟨k0, k1, -⟩ := hk
          have e0 := k0
          have e1 : (fun _ => True) (ρ (.tmp 79))  := k1
          clear k0 k1
          refine Par.val_k fun K hK => ?_
          unfold Par.val
          (have hz := hC.notyet 16 11 hL (by kernel_rfl); have hx := hR.a hz; have h79 : BkQ (w8) mp ro' rc' (UInt64.ofNat (bodyR s).length) np 79 (ρ (.tmp 79)) w' := hR.get 10 79 11 (by decide) (hC.before 10 (i := 11) rfl hd (by kernel_rfl)) hL; have hrc : Rcs w' (ρ (.tmp 79)) (saveR s ++ [⟨17, [UInt64.ofNat (bodyR s).length], []⟩]) := bk_rcs h79 HMPL.out HMP.out (fun q hq => (HVALL.out q hq).ext hx); refine Par.val_call Tryd.func12 (by kernel_rfl) rfl e0 ?_; simp only [List.map_toArray, List.map_cons, List.map_nil]; refine (load_any _ _ w' hrc (by rw [List.length_append, HNP.out]; have := HNB.out; simp; omega) (HT.out.ext (HE8.out.trans hx))).mono ?_; rintro e w2 hp; unfold LdP at hp; rw [load_more] at hp; obtain ⟨rfl, hx2⟩ := hp; exact ⟨_, rfl, hK _ _ ⟨hR.grow (i := 11) (d := 80) hz (by decide) hx2 trivial, rfl⟩⟩)
        refine ⟨fun L ρ w' hR hC hL hd hk => ?_, ?_⟩
        · exact Par.val_of_run rfl ⟨hR.other (by decide), hk.1⟩
        refine ⟨fun L ρ w' hR hC hL hd hk => ?_, ?_⟩
        · obtain ⟨k0, -⟩ := hk
          have e0 : ρ (.tmp 68) = Value.tuple #[.agg #[.int .u64 0, .int .u64 0, .int .u64 0, .int .u64 0, .int .u64 0, .slice none 0 0, .slice none 0 0, .slice none 0 0, .int .u64 0, .int .u64 0], .int .i64 2] := k0
          clear k0
          refine Par.val_k fun K hK => ?_
          unfold Par.val
          (go_simp; exact hK _ _ ⟨hR.other (by decide), rfl⟩)
        refine ⟨fun L ρ w' hR hC hL hd hk => ?_, ?_⟩
        · obtain ⟨k0, -⟩ := hk
          have e0 : ρ (.tmp 68) = Value.tuple #[.agg #[.int .u64 0, .int .u64 0, .int .u64 0, .int .u64 0, .int .u64 0, .slice none 0 0, .slice none 0 0, .slice none 0 0, .int .u64 0, .int .u64 0], .int .i64 2] := k0
          clear k0
          refine Par.val_k fun K hK => ?_
          unfold Par.val
          (go_simp; exact hK _ _ ⟨hR.other (by decide), rfl⟩)
        refine ⟨fun L ρ w' hR hC hL hd hk => ?_, ?_⟩
        · obtain ⟨-⟩ := hk
          skip
          refine Par.val_k fun K hK => ?_
          unfold Par.val
          (have hz := hC.notyet 16 15 hL (by kernel_rfl); have hx := hR.a hz; have HG := hid (hR.grow (i := 15) (d := 13) hz (by decide) (Ext.alloc w' (.cells #[.int .u64 0, .int .u64 0, .int .u64 0, .int .u64 0, .int .u64 0, .slice none 0 0, .slice none 0 0, .slice none 0 0, .int .u64 0, .int .u64 0] 29 (0, 0))) ⟨w'.heap.size, rfl, heap_alloc_new _ _, hx.size⟩); go_simp; exact hK _ _ ⟨HG.out, trivial⟩)
        refine ⟨fun L ρ w' hR hC hL hd hk => ?_, ?_⟩
        · obtain ⟨k0, k1, -⟩ := hk
          have e0 : (fun _ => True) (ρ (.tmp 13))  := k0
          have e1 : ρ (.tmp 81) = Value.agg #[.int .u64 0, .int .u64 0, .int .u64 0, .int .u64 0, .int .u64 0, .slice none 0 0, .slice none 0 0, .slice none 0 0, .int .u64 0, .int .u64 0] := k1
          clear k0 k1
          refine Par.val_k fun K hK => ?_
          unfold Par.val
          (have hx := hR.a hL; have hg4 : BkQ (w8) mp ro' rc' (UInt64.ofNat (bodyR s).length) np 13 (ρ (.tmp 13)) w' := hR.get 15 13 16 (by decide) (hC.before 15 (i := 16) rfl hd (by kernel_rfl)) hL; obtain ⟨qb, s4, hqb, hqs⟩ := hg4; obtain ⟨⟨z0, z1, z2, z3, z4, z5, z6, z7, z8, z9⟩, zf⟩ := blk10 hqb; have HF9 := hid (Ext.below hx ((set10_fr w' qb (.int .u64 0) (.int .u64 0) (.int .u64 0) (.int .u64 0) (.int .u64 0) (.slice none 0 0) (.slice none 0 0) (.slice none 0 0) (.int .u64 0) (.int .u64 0)).below (by simp; exact hqs) hx.size)); clear hqs hqb hx; go_simp; exact hK _ _ ⟨hR.last [2, 10, 11, 12] (by intro j hj; simp at hj; rcases hj with rfl | rfl | rfl | rfl; exact hC.before 2 (i := 16) rfl hd (by kernel_rfl); exact hC.before 10 (i := 16) rfl hd (by kernel_rfl); exact hC.before 11 (i := 16) rfl hd (by kernel_rfl); exact hC.before 12 (i := 16) rfl hd (by kernel_rfl)) (by decide) HF9.out, trivial⟩)
        refine ⟨fun L ρ w' hR hC hL hd hk => ?_, ?_⟩
        · exact Par.val_of_run rfl ⟨hR.other (by decide), hk.1⟩
        trivial
      intro a' w' inv hR
      have q69 : (fun _ => True) (a'.tmps.getD 69 undef)  := inv.done 0 _ 69 rfl rfl rfl
      have q70 : a'.tmps.getD 70 undef = Value.slice (some a) np pc := inv.done 1 _ 70 rfl rfl rfl
      have q71 : (fun _ => True) (a'.tmps.getD 71 undef)  := inv.done 2 _ 71 rfl rfl rfl
      have q72 : a'.tmps.getD 72 undef = Value.slice (some a) np pc := inv.done 3 _ 72 rfl rfl rfl
      have q73 : a'.tmps.getD 73 undef = Value.slice (some a) np pc := inv.done 4 _ 73 rfl rfl rfl
      have q74 : a'.tmps.getD 74 undef = Value.int IntKind.i64 (np : Int) := inv.done 5 _ 74 rfl rfl rfl
      have q75 : a'.tmps.getD 75 undef = Value.int IntKind.i64 (k9 : Int) := inv.done 6 _ 75 rfl rfl rfl
      have q76 : a'.tmps.getD 76 undef = Value.pointer (some (a.add (k9 * 3))) := inv.done 7 _ 76 rfl rfl rfl
      have q77 : a'.tmps.getD 77 undef = Value.agg #[.int .i64 17, .slice ro' 1 rc', .string ⟨#[]⟩] := inv.done 8 _ 77 rfl rfl rfl
      have q78 : (fun _ => True) (a'.tmps.getD 78 undef)  := inv.done 9 _ 78 rfl rfl rfl
      have q79 : (fun _ => True) (a'.tmps.getD 79 undef)  := inv.done 10 _ 79 rfl rfl rfl
      have q80 : a'.tmps.getD 80 undef = Value.tuple #[.agg #[.int .u64 0, .int .u64 0, .int .u64 0, .int .u64 0, .int .u64 0, .slice none 0 0, .slice none 0 0, .slice none 0 0, .int .u64 0, .int .u64 0], .int .i64 2] := inv.done 11 _ 80 rfl rfl rfl
      have q68 : a'.tmps.getD 68 undef = Value.tuple #[.agg #[.int .u64 0, .int .u64 0, .int .u64 0, .int .u64 0, .int .u64 0, .slice none 0 0, .slice none 0 0, .slice none 0 0, .int .u64 0, .int .u64 0], .int .i64 2] := inv.done 12 _ 68 rfl rfl rfl
      have q81 : a'.tmps.getD 81 undef = Value.agg #[.int .u64 0, .int .u64 0, .int .u64 0, .int .u64 0, .int .u64 0, .slice none 0 0, .slice none 0 0, .slice none 0 0, .int .u64 0, .int .u64 0] := inv.done 13 _ 81 rfl rfl rfl
      have q82 : a'.tmps.getD 82 undef = Value.int IntKind.i64 2 := inv.done 14 _ 82 rfl rfl rfl
      have q13 : (fun _ => True) (a'.tmps.getD 13 undef)  := inv.done 15 _ 13 rfl rfl rfl
      have q14 : a'.tmps.getD 14 undef = Value.int IntKind.i64 2 := inv.done 17 _ 14 rfl rfl rfl
      clear inv
      simp only [List.filterMap_cons, List.filterMap_nil, Par.putAll, Act.put, List.setIfInBounds_toArray, List.set_cons_succ, List.set_cons_zero, q70, q72, q73, q74, q75, q76, q77, q80, q68, q81, q82, q14]
      clear q70 q72 q73 q74 q75 q76 q77 q80 q68 q81 q82 q14
      have hx9 := Rg.Mx.fin hR (by decide); have HEZ := hid (HE8.out.trans hx9); clear hx9 hR
      generalize a'.tmps.getD 69 undef = u69 at *
      generalize a'.tmps.getD 71 undef = u71 at *
      generalize a'.tmps.getD 78 undef = u78 at *
      generalize a'.tmps.getD 79 undef = u79 at *
      generalize a'.tmps.getD 13 undef = u13 at *
      try clear a'
      clear hw9 hk91 hcpl hcpm
      have HC := hid (load_any _ l w' (HRL.out.ext HEZ.out) (by have := HLL.out; omega) (HT.out.ext HEZ.out))
      obtain ⟨q, hq⟩ : ∃ q, loadR l = q := ⟨_, rfl⟩
      have HQ := hid hq
      clear hq
      go_wp2_with fail
      refine HC.out.mono ?_
      rintro e wt hp
      unfold LdP at hp
      rw [HQ.out] at hp
      clear HC
      cases q with
      | none =>
        obtain ⟨rfl, hx⟩ := hp
        have HET := hid (HEZ.out.trans hx)
        obtain ⟨⟨c0, c1, c2, c3, c4, c5, c6, c7, c8, c9⟩, -⟩ := blk10 (heap_alloc_new wt (.cells #[.int .u64 0, .int .u64 0, .int .u64 0, .int .u64 0, .int .u64 0, .slice none 0 0, .slice none 0 0, .slice none 0 0, .int .u64 0, .int .u64 0] 29 (0, 0)))
        clear hx
        go_wp2
        go_returns
        exact ⟨by first | rfl | simp, HET.out.trans (Ext.alloc _ _)⟩
      | some u =>
        obtain ⟨⟨ui', ud', uc', rfl, hin⟩, hx⟩ := hp
        obtain ⟨yi, y1, yd, y2, yc, y3, rfl, rfl, rfl⟩ := snp_shape hin
        have HIN := hid hin
        have HET := hid (HEZ.out.trans hx)
        have HLS := hid (load_some HQ.out)
        obtain ⟨u0, u1, u2, u3, u4, uit, udd, ucu, u5, u6⟩ := u
        obtain ⟨k1, hk1⟩ : ∃ x, uit.length = x := ⟨_, rfl⟩
        obtain ⟨k2, hk2⟩ : ∃ x, udd.length = x := ⟨_, rfl⟩
        obtain ⟨k3, hk3⟩ : ∃ x, ucu.length = x := ⟨_, rfl⟩
        have HUE : Hid (∀ a b c, snpC ⟨u0, u1, u2, u3, u4, uit, udd, ucu, u5, u6⟩ a b c = #[uv u0, uv u1, uv u2, uv u3, uv u4, a, b, c, uv u5, uv u6]) := hid (fun a b c => rfl)
        rw [HUE.out]
        dsimp only at HIN ⊢
        rw [hk1, hk2, hk3] at HIN ⊢
        have HK1 := hid hk1
        have HK2 := hid hk2
        have HK3 := hid hk3
        obtain ⟨WT, hWT⟩ : ∃ W, wt.alloc (.cells #[uv u0, uv u1, uv u2, uv u3, uv u4, .slice yi k1 y1, .slice yd k2 y2, .slice yc k3 y3, uv u5, uv u6] 29 (0, 0)) = W := ⟨_, rfl⟩
        have hET := Ext.alloc wt (.cells #[uv u0, uv u1, uv u2, uv u3, uv u4, .slice yi k1 y1, .slice yd k2 y2, .slice yc k3 y3, uv u5, uv u6] 29 (0, 0))
        have hbT := heap_alloc_new wt (.cells #[uv u0, uv u1, uv u2, uv u3, uv u4, .slice yi k1 y1, .slice yd k2 y2, .slice yc k3 y3, uv u5, uv u6] 29 (0, 0))
        rw [hWT] at hET hbT
        obtain ⟨⟨c0, c1, c2, c3, c4, c5, c6, c7, c8, c9⟩, -⟩ := blk10 hbT
        have HEU := hid (HET.out.trans hET)
        have hll := HLS.out.2
        have hsz : uit.length ≤ 300 ∧ udd.length ≤ 300 ∧ ucu.length ≤ 300 := by
          have h := congrArg List.length HLS.out.2
          have h2 := HLL.out
          unfold saveR bodyR at h
          simp only [List.length_append, List.length_map, List.length_cons, List.length_nil] at h
          omega
        have hsv := (show Calls Tryd.prog _ _ WT (fun e w' => (∃ v, e = .returned (.tuple #[v, .int .i64 0]) ∧ RcsO w' WT.heap.size 62 v l) ∧ Ext WT w') from (save_any ⟨u0, u1, u2, u3, u4, uit, udd, ucu, u5, u6⟩ _ _ _ WT (HIN.out.ext hET) (by dsimp only; omega)).mono fun e w' h => by
          rw [HLS.out.1, HLS.out.2, if_pos (show true = true from rfl)] at h
          exact h)
        rw [HUE.out] at hsv
        have HC := hid hsv
        clear hx hin hk1 hk2 hk3 hET hbT hll hsz hsv
        go_wp2_with (first | rw [hWT] | fail)
        refine HC.out.mono ?_
        rintro e wu ⟨⟨v6, rfl, ho⟩, hx⟩
        obtain ⟨ro, rc, rfl⟩ := ho.open
        have HEV := hid (HEU.out.trans hx)
        have HO6 := hid ho
        clear ho hx HC hWT c0 c1 c2 c3 c4 c5 c6 c7 c8 c9
        have HC := hid (owns13_any _ l wu HO6.out.rcs (by have := HLL.out; omega))
        go_wp2_with fail
        refine HC.out.mono ?_
        rintro e wv ⟨⟨u7, rfl, h7⟩, hx⟩
        have HEW := hid (HEV.out.trans hx)
        have H7 := hid h7
        obtain ⟨s7, n7, k7, rfl⟩ : ∃ a b c, u7 = .slice a b c := by
          obtain ⟨mm, _, hr, -⟩ := h7
          obtain ⟨ao, cap, rfl, -⟩ := hr.open
          exact ⟨_, _, _, rfl⟩
        clear h7 hx HC HO6
        have HC := hid (owns13_any _ l wv (HRL.out.ext HEW.out) (by have := HLL.out; omega))
        go_wp2_with fail
        refine HC.out.mono ?_
        rintro e wx ⟨⟨u8, rfl, h8⟩, hx⟩
        have HEX := hid (HEW.out.trans hx)
        have H7x := hid (H7.out.ext hx)
        have H8 := hid h8
        obtain ⟨s8, n8, k8, rfl⟩ : ∃ a b c, u8 = .slice a b c := by
          obtain ⟨mm, _, hr, -⟩ := h8
          obtain ⟨ao, cap, rfl, -⟩ := hr.open
          exact ⟨_, _, _, rfl⟩
        clear h8 hx HC H7
        have hc := rsames5_any _ _ l l wx H7x.out H8.out (by have := HLL.out; omega) (by have := HLL.out; omega)
        rw [recsame_eq rfl] at hc
        have HC := hid hc
        clear hc
        go_wp2_with fail
        refine HC.out.mono ?_
        rintro e wy ⟨rfl, hx⟩
        have HEY := hid (HEX.out.trans hx)
        clear hx HC
        go_wp2
        go_returns
        exact ⟨by first | rfl | simp, HEY.out⟩
    have d2 : decide ((kc : Int) < (np : Int)) = true := by simp; omega
    have hkc : (kc : Int) ≤ (pc : Int) := by omega
    have HKC := hid q2
    have HC := hid (show Calls Tryd.prog _ #[.slice po kc pc] w8 (fun e w' => e = .returned (.tuple #[.agg #[.int .u64 0, .int .u64 0, .int .u64 0, .int .u64 0, .int .u64 0, .slice none 0 0, .slice none 0 0, .slice none 0 0, .int .u64 0, .int .u64 0], .int .i64 2]) ∧ Ext w8 w') from (load_any _ ((saveR s).take kc) w8 (HP8.out.rcs.takeC kc (by rw [HNP.out]; omega)) (by rw [List.length_take, HNP.out]; omega) (HT.out.ext HE8.out)).mono fun e w' h => by
      unfold LdP at h
      rw [load_less (by rw [HNP.out]; exact HKC.out)] at h
      exact h)
    clear q1 q2
    go_wp2_with fail
    refine HC.out.mono ?_
    rintro e w9 ⟨rfl, hx⟩
    have HP10 := hid (HP8.out.ext (hx.trans (Ext.alloc w9 (.cells #[.int .u64 0, .int .u64 0, .int .u64 0, .int .u64 0, .int .u64 0, .slice none 0 0, .slice none 0 0, .slice none 0 0, .int .u64 0, .int .u64 0] 29 (0, 0)))))
    have HE10 := hid (HE8.out.trans (hx.trans (Ext.alloc w9 (.cells #[.int .u64 0, .int .u64 0, .int .u64 0, .int .u64 0, .int .u64 0, .slice none 0 0, .slice none 0 0, .slice none 0 0, .int .u64 0, .int .u64 0] 29 (0, 0)))))
    clear hx HC hkc d1 d2 HKC
    go_wp2_with fail
    obtain ⟨p10, hp10⟩ : ∃ p, w9.heap.size = p := ⟨_, rfl⟩
    try rw [hp10]
    clear hp10
    generalize w9.alloc (.cells #[.int .u64 0, .int .u64 0, .int .u64 0, .int .u64 0, .int .u64 0, .slice none 0 0, .slice none 0 0, .slice none 0 0, .int .u64 0, .int .u64 0] 29 (0, 0)) = W10 at *
    obtain ⟨mp, hmp, hown, hinn⟩ := HP10.out
    have hmpl : mp.length = np := by
      have h := congrArg List.length hmp
      rw [List.length_map, HNP.out] at h
      exact h
    obtain ⟨a, rfl⟩ : ∃ a, po = some a := by
      rcases hown.2 with ⟨e, e2⟩ | ⟨g, c, cur, e, _⟩
      · have := HNP1.out; omega
      · cases e; exact ⟨_, rfl⟩
    have hsl0 := Sl.of_owns hown
    obtain ⟨hcpl, hcpm⟩ : np ≤ pc ∧ pc ≤ 9223372036854775807 := by
      obtain ⟨-, ao, cap, e, h3, h4, -⟩ := hsl0
      cases e
      exact ⟨by omega, by simpa [maxLen] using h4⟩
    obtain ⟨k9, hk9⟩ : ∃ k, np = k + 1 := ⟨np - 1, by have := HNP1.out; omega⟩
    have hkl : k9 < mp.length := by omega
    have hlast : (mp[k9]'hkl).1 = ⟨17, [UInt64.ofNat (bodyR s).length], []⟩ := by
      have h1 : (mp.map (·.1))[k9]? = some ((mp[k9]'hkl).1) := by rw [List.getElem?_map, List.getElem?_eq_getElem hkl]; rfl
      rw [hmp] at h1
      have hbl : (bodyR s).length = k9 := by
        have h := HNP.out
        unfold saveR at h
        rw [List.length_append] at h
        simp at h
        omega
      unfold saveR at h1
      rw [List.getElem?_append_right (by omega), hbl, Nat.sub_self] at h1
      have h2 := Option.some.inj h1
      rw [← h2, hbl]
    have hcl : ∀ j u, (rcells (mp[k9]'hkl))[j]? = some u → (W10).cell? (a.add (k9 * 3 + j)) = some u := fun j u hu => by
      have hrows : RowsOf (W10) 3 (.slice (some a) np pc) rcells mp := ⟨fun _ _ => rfl, hsl0⟩
      exact hrows.opens.2.2.2.2 a rfl k9 hkl j u hu
    have hvl := (hinn _ (List.getElem_mem hkl)).vec
    obtain ⟨el, hel⟩ : ∃ x, mp[k9]'hkl = x := ⟨_, rfl⟩
    rw [hel] at hlast hcl hvl
    obtain ⟨⟨kd, ns, tx⟩, r⟩ := el
    dsimp only at hlast hvl
    obtain ⟨rfl, rfl, rfl⟩ : kd = 17 ∧ ns = [UInt64.ofNat (bodyR s).length] ∧ tx = [] := by
      simp only [Rc.mk.injEq] at hlast
      exact hlast
    obtain ⟨ro', rc', rfl, -⟩ := hvl.open
    have kk0 := cell_first (hcl 0 _ rfl)
    have kk1 := cell_next (hcl 1 _ rfl) (by decide)
    have kk2 := cell_next (hcl 2 _ rfl) (by decide)
    dsimp only at kk0 kk1 kk2
    simp only [List.length_cons, List.length_nil, Nat.reduceAdd, Nat.zero_add] at kk1 hvl
    have HKK := hid (And.intro kk0 (And.intro kk1 kk2))
    have HSL0 : Hid (Sl (W10) 3 (.slice (some a) np pc) np (mp.flatMap rcells)) := hid (by rw [hmpl] at hsl0; exact hsl0)
    have HMP := hid hmp
    have HMPL := hid hmpl
    have HVALL : Hid (∀ q ∈ mp ++ [((⟨17, [UInt64.ofNat (bodyR s).length], []⟩ : Rc), Value.slice ro' 1 rc')], Vec uv (W10) q.2 q.1.n) := hid (fun q hq => by
      rcases List.mem_append.1 hq with hq | hq
      · exact (hinn q hq).vec
      · simp at hq; subst hq; exact hvl)
    have hw9 : IntKind.i64.wrap ((np : Int) - 1) = (k9 : Int) := i64v k9 (by omega) (by have := HNB.out; omega)
    have hk91 : (k9 : Int) < (np : Int) := by omega
    have HONE : Hid (∀ y ∈ mp.flatMap rcells, y.oneCell' = true) := hid (fun y hy => by
      obtain ⟨q, hq, hy⟩ := List.mem_flatMap.1 hy
      obtain ⟨ao, cap, e, -⟩ := (hinn q hq).vec.open
      simp [rcells] at hy
      rcases hy with rfl | rfl | rfl
      · rfl
      · rw [e]; rfl
      · rfl)
    clear hmp hown hinn hmpl hsl0 hk9 hkl hlast hcl hvl hel kk0 kk1 kk2
    refine ParE.wp_region_e (l := [_, _, _, _, _, _, _, _, _, _, _, _, _, _, _, _, _, _]) rfl (Rg.Mx (W10) 16 [(0, 69, 2), (2, 71, 10), (9, 78, 10), (10, 79, 11), (11, 80, 12), (15, 13, 16)] (BkQ (W10) mp ro' rc' (UInt64.ofNat (bodyR s).length) np) (fun w' => Ext (W10) w')) (ParC.VC [(fun _ => True), ParC.EQ (Value.slice (some a) np pc), (fun _ => True), ParC.EQ (Value.slice (some a) np pc), ParC.EQ (Value.slice (some a) np pc), ParC.EQ (Value.int IntKind.i64 (np : Int)), ParC.EQ (Value.int IntKind.i64 (k9 : Int)), ParC.EQ (Value.pointer (some (a.add (k9 * 3)))), ParC.EQ (Value.agg #[.int .i64 17, .slice ro' 1 rc', .string ⟨#[]⟩]), (fun _ => True), (fun _ => True), ParC.EQ (Value.tuple #[.agg #[.int .u64 0, .int .u64 0, .int .u64 0, .int .u64 0, .int .u64 0, .slice none 0 0, .slice none 0 0, .slice none 0 0, .int .u64 0, .int .u64 0], .int .i64 2]), ParC.EQ (Value.tuple #[.agg #[.int .u64 0, .int .u64 0, .int .u64 0, .int .u64 0, .int .u64 0, .slice none 0 0, .slice none 0 0, .slice none 0 0, .int .u64 0, .int .u64 0], .int .i64 2]), ParC.EQ (Value.agg #[.int .u64 0, .int .u64 0, .int .u64 0, .int .u64 0, .int .u64 0, .slice none 0 0, .slice none 0 0, .slice none 0 0, .int .u64 0, .int .u64 0]), ParC.EQ (Value.int IntKind.i64 2), (fun _ => True), fun _ => True, ParC.EQ (Value.int IntKind.i64 2)]) (by kernel_rfl) (by kernel_rfl) (Rg.Mx.start BkQ.st) ?_ ?_
    · refine ⟨fun L ρ w' hR hC hL hd hk => ?_, ?_⟩
      · obtain ⟨-⟩ := hk
        skip
        refine Par.val_k fun K hK => ?_
        unfold Par.val
        (have hz := hC.notyet 16 0 hL (by kernel_rfl); have hx := hR.a hz; have HG := hid (hR.grow (i := 0) (d := 69) hz (by decide) (Ext.alloc w' (.cells #[] 62 (0, 0))) ⟨w'.heap.size, rfl, heap_alloc_new _ _, hx.size⟩); go_simp; exact hK _ _ ⟨HG.out, trivial⟩)
      refine ⟨fun L ρ w' hR hC hL hd hk => ?_, ?_⟩
      · exact Par.val_of_run rfl ⟨hR.other (by decide), hk.1⟩
      refine ⟨fun L ρ w' hR hC hL hd hk => ?_, ?_⟩
      · obtain ⟨k0, k1, -⟩ := hk
        have e0 : (fun _ => True) (ρ (.tmp 69))  := k0
        have e1 : ρ (.tmp 70) = Value.slice (some a) np pc := k1
        clear k0 k1
        refine Par.val_k fun K hK => ?_
        unfold Par.val
        (have hz := hC.notyet 16 2 hL (by kernel_rfl); have hx := hR.a hz; obtain ⟨g, eg, hg, hgl⟩ : BkQ (W10) mp ro' rc' (UInt64.ofNat (bodyR s).length) np 69 (ρ (.tmp 69)) w' := hR.get 0 69 2 (by decide) (hC.before 0 (i := 2) rfl hd (by kernel_rfl)) hL; obtain ⟨a9, c9, w9, r1, r2, r3, r4⟩ := run_append_sl (P := Tryd.prog) (World.heap (W10)).size 30 30 62 Tryd.underlying30 infoRc rfl (by decide) (emp_row hg hgl) (HSL0.out.ext hx) HONE.out (by have := HNB.out; simp [maxLen]; omega) (by have := HNB.out; omega) hx.size; rw [← eg, ← e1] at r1; rw [Nat.zero_add] at r1 r2; exact Par.val_append r1 (hK _ _ ⟨hR.app [] [10, 11] [(9, 78, 10), (15, 13, 16)] hz (by simp) (by intro j hj; simp at hj; rcases hj with rfl | rfl; exact hC.notyet 10 2 hL (by kernel_rfl); exact hC.notyet 11 2 hL (by kernel_rfl)) (by decide) (bk_keep r3 r4 hg) (Ext.below hx r4) r2, trivial⟩))
      refine ⟨fun L ρ w' hR hC hL hd hk => ?_, ?_⟩
      · exact Par.val_of_run rfl ⟨hR.other (by decide), hk.1⟩
      refine ⟨fun L ρ w' hR hC hL hd hk => ?_, ?_⟩
      · exact Par.val_of_run rfl ⟨hR.other (by decide), hk.1⟩
      refine ⟨fun L ρ w' hR hC hL hd hk => ?_, ?_⟩
      · obtain ⟨k0, -⟩ := hk
        have e0 : ρ (.tmp 73) = Value.slice (some a) np pc := k0
        clear k0
        refine Par.val_k fun K hK => ?_
        unfold Par.val
        (go_simp; exact hK _ _ ⟨hR.other (by decide), rfl⟩)
      refine ⟨fun L ρ w' hR hC hL hd hk => ?_, ?_⟩
      · obtain ⟨k0, k1, -⟩ := hk
        have e0 : ρ (.tmp 74) = Value.int IntKind.i64 (np : Int) := k0
        have e1 : ρ (Operand.const (Value.int IntKind.i64 1)) = (Value.int IntKind.i64 1) := k1
        clear k0 k1
        refine Par.val_k fun K hK => ?_
        unfold Par.val
        (go_simp; exact hK _ _ ⟨hR.other (by decide), rfl⟩)
      refine ⟨fun L ρ w' hR hC hL hd hk => ?_, ?_⟩
      · obtain ⟨k0, k1, -⟩ := hk
        have e0 : ρ (.tmp 72) = Value.slice (some a) np pc := k0
        have e1 : ρ (.tmp 75) = Value.int IntKind.i64 (k9 : Int) := k1
        clear k0 k1
        refine Par.val_k fun K hK => ?_
        unfold Par.val
        (go_simp; exact hK _ _ ⟨hR.other (by decide), rfl⟩)
      refine ⟨fun L ρ w' hR hC hL hd hk => ?_, ?_⟩
      · obtain ⟨k0, -⟩ := hk
        have e0 : ρ (.tmp 76) = Value.pointer (some (a.add (k9 * 3))) := k0
        clear k0
        refine Par.val_k fun K hK => ?_
        unfold Par.val
        (have hx := hR.a (hC.notyet 16 8 hL (by kernel_rfl)); have c0 := hx.cell HKK.out.1; have c1 := hx.cell HKK.out.2.1; have c2 := hx.cell HKK.out.2.2; go_simp; exact hK _ _ ⟨hR.other (by decide), rfl⟩)
      refine ⟨fun L ρ w' hR hC hL hd hk => ?_, ?_⟩
      · obtain ⟨k0, -⟩ := hk
        have e0 : ρ (.tmp 77) = Value.agg #[.int .i64 17, .slice ro' 1 rc', .string ⟨#[]⟩] := k0
        clear k0
        refine Par.val_k fun K hK => ?_
        unfold Par.val
        (have hz := hC.notyet 16 9 hL (by kernel_rfl); have hx := hR.a hz; have HG := hid (hR.grow (i := 9) (d := 78) hz (by decide) (Ext.alloc w' (.cells #[.int .i64 17, .slice ro' 1 rc', .string ⟨#[]⟩] 62 (0, 0))) ⟨w'.heap.size, rfl, heap_alloc_new _ _⟩); go_simp; exact hK _ _ ⟨HG.out, trivial⟩)
      refine ⟨fun L ρ w' hR hC hL hd hk => ?_, ?_⟩
      · obtain ⟨k0, k1, -⟩ := hk
        have e0 : (fun _ => True) (ρ (.tmp 71))  := k0
        have e1 : (fun _ => True) (ρ (.tmp 78))  := k1
        clear k0 k1
        refine Par.val_k fun K hK => ?_
        unfold Par.val
        (have hz := hC.notyet 16 10 hL (by kernel_rfl); have hx := hR.a hz; have h71 : BkQ (W10) mp ro' rc' (UInt64.ofNat (bodyR s).length) np 71 (ρ (.tmp 71)) w' := hR.get 2 71 10 (by decide) (hC.before 2 (i := 10) rfl hd (by kernel_rfl)) hL; obtain ⟨g, eg, hg⟩ : BkQ (W10) mp ro' rc' (UInt64.ofNat (bodyR s).length) np 78 (ρ (.tmp 78)) w' := hR.get 9 78 10 (by decide) (hC.before 9 (i := 10) rfl hd (by kernel_rfl)) hL; obtain ⟨a9, c9, w9, r1, r2, r3, r4⟩ := run_append_sl (P := Tryd.prog) (World.heap (W10)).size 30 30 62 Tryd.underlying30 infoRc rfl (by decide) h71 (blk_slk (k := 1) (cs := [.int .i64 17, .slice ro' 1 rc', .string ⟨#[]⟩]) hg rfl (by decide)) (by intro y hy; simp at hy; rcases hy with rfl | rfl | rfl <;> rfl) (by have := HNB.out; simp [maxLen]; omega) (by have := HNB.out; omega) hx.size; rw [← eg] at r1; exact Par.val_append r1 (hK _ _ ⟨hR.app [2] [11] [(15, 13, 16)] hz (by intro j hj; simp at hj; subst hj; exact hC.before 2 (i := 10) rfl hd (by kernel_rfl)) (by intro j hj; simp at hj; subst hj; exact hC.notyet 11 10 hL (by kernel_rfl)) (by decide) (bk_keep2 r3 r4 h71) (Ext.below hx r4) r2, trivial⟩))
      refine ⟨fun L ρ w' hR hC hL hd hk => ?_, ?_⟩
      · obtain ⟨k0, k1, -⟩ := hk
        have e0 := k0
        have e1 : (fun _ => True) (ρ (.tmp 79))  := k1
        clear k0 k1
        refine Par.val_k fun K hK => ?_
        unfold Par.val
        (have hz := hC.notyet 16 11 hL (by kernel_rfl); have hx := hR.a hz; have h79 : BkQ (W10) mp ro' rc' (UInt64.ofNat (bodyR s).length) np 79 (ρ (.tmp 79)) w' := hR.get 10 79 11 (by decide) (hC.before 10 (i := 11) rfl hd (by kernel_rfl)) hL; have hrc : Rcs w' (ρ (.tmp 79)) (saveR s ++ [⟨17, [UInt64.ofNat (bodyR s).length], []⟩]) := bk_rcs h79 HMPL.out HMP.out (fun q hq => (HVALL.out q hq).ext hx); refine Par.val_call Tryd.func12 (by kernel_rfl) rfl e0 ?_; simp only [List.map_toArray, List.map_cons, List.map_nil]; refine (load_any _ _ w' hrc (by rw [List.length_append, HNP.out]; have := HNB.out; simp; omega) (HT.out.ext (HE10.out.trans hx))).mono ?_; rintro e w2 hp; unfold LdP at hp; rw [load_more] at hp; obtain ⟨rfl, hx2⟩ := hp; exact ⟨_, rfl, hK _ _ ⟨hR.grow (i := 11) (d := 80) hz (by decide) hx2 trivial, rfl⟩⟩)
      refine ⟨fun L ρ w' hR hC hL hd hk => ?_, ?_⟩
      · exact Par.val_of_run rfl ⟨hR.other (by decide), hk.1⟩
      refine ⟨fun L ρ w' hR hC hL hd hk => ?_, ?_⟩
      · obtain ⟨k0, -⟩ := hk
        have e0 : ρ (.tmp 68) = Value.tuple #[.agg #[.int .u64 0, .int .u64 0, .int .u64 0, .int .u64 0, .int .u64 0, .slice none 0 0, .slice none 0 0, .slice none 0 0, .int .u64 0, .int .u64 0], .int .i64 2] := k0
        clear k0
        refine Par.val_k fun K hK => ?_
        unfold Par.val
        (go_simp; exact hK _ _ ⟨hR.other (by decide), rfl⟩)
      refine ⟨fun L ρ w' hR hC hL hd hk => ?_, ?_⟩
      · obtain ⟨k0, -⟩ := hk
        have e0 : ρ (.tmp 68) = Value.tuple #[.agg #[.int .u64 0, .int .u64 0, .int .u64 0, .int .u64 0, .int .u64 0, .slice none 0 0, .slice none 0 0, .slice none 0 0, .int .u64 0, .int .u64 0], .int .i64 2] := k0
        clear k0
        refine Par.val_k fun K hK => ?_
        unfold Par.val
        (go_simp; exact hK _ _ ⟨hR.other (by decide), rfl⟩)
      refine ⟨fun L ρ w' hR hC hL hd hk => ?_, ?_⟩
      · obtain ⟨-⟩ := hk
        skip
        refine Par.val_k fun K hK => ?_
        unfold Par.val
        (have hz := hC.notyet 16 15 hL (by kernel_rfl); have hx := hR.a hz; have HG := hid (hR.grow (i := 15) (d := 13) hz (by decide) (Ext.alloc w' (.cells #[.int .u64 0, .int .u64 0, .int .u64 0, .int .u64 0, .int .u64 0, .slice none 0 0, .slice none 0 0, .slice none 0 0, .int .u64 0, .int .u64 0] 29 (0, 0))) ⟨w'.heap.size, rfl, heap_alloc_new _ _, hx.size⟩); go_simp; exact hK _ _ ⟨HG.out, trivial⟩)
      refine ⟨fun L ρ w' hR hC hL hd hk => ?_, ?_⟩
      · obtain ⟨k0, k1, -⟩ := hk
        have e0 : (fun _ => True) (ρ (.tmp 13))  := k0
        have e1 : ρ (.tmp 81) = Value.agg #[.int .u64 0, .int .u64 0, .int .u64 0, .int .u64 0, .int .u64 0, .slice none 0 0, .slice none 0 0, .slice none 0 0, .int .u64 0, .int .u64 0] := k1
        clear k0 k1
        refine Par.val_k fun K hK => ?_
        unfold Par.val
        (have hx := hR.a hL; have hg4 : BkQ (W10) mp ro' rc' (UInt64.ofNat (bodyR s).length) np 13 (ρ (.tmp 13)) w' := hR.get 15 13 16 (by decide) (hC.before 15 (i := 16) rfl hd (by kernel_rfl)) hL; obtain ⟨qb, s4, hqb, hqs⟩ := hg4; obtain ⟨⟨z0, z1, z2, z3, z4, z5, z6, z7, z8, z9⟩, zf⟩ := blk10 hqb; have HF9 := hid (Ext.below hx ((set10_fr w' qb (.int .u64 0) (.int .u64 0) (.int .u64 0) (.int .u64 0) (.int .u64 0) (.slice none 0 0) (.slice none 0 0) (.slice none 0 0) (.int .u64 0) (.int .u64 0)).below (by simp; exact hqs) hx.size)); clear hqs hqb hx; go_simp; exact hK _ _ ⟨hR.last [2, 10, 11, 12] (by intro j hj; simp at hj; rcases hj with rfl | rfl | rfl | rfl; exact hC.before 2 (i := 16) rfl hd (by kernel_rfl); exact hC.before 10 (i := 16) rfl hd (by kernel_rfl); exact hC.before 11 (i := 16) rfl hd (by kernel_rfl); exact hC.before 12 (i := 16) rfl hd (by kernel_rfl)) (by decide) HF9.out, trivial⟩)
      refine ⟨fun L ρ w' hR hC hL hd hk => ?_, ?_⟩
      · exact Par.val_of_run rfl ⟨hR.other (by decide), hk.1⟩
      trivial
    intro a' w' inv hR
    have q69 : (fun _ => True) (a'.tmps.getD 69 undef)  := inv.done 0 _ 69 rfl rfl rfl
    have q70 : a'.tmps.getD 70 undef = Value.slice (some a) np pc := inv.done 1 _ 70 rfl rfl rfl
    have q71 : (fun _ => True) (a'.tmps.getD 71 undef)  := inv.done 2 _ 71 rfl rfl rfl
    have q72 : a'.tmps.getD 72 undef = Value.slice (some a) np pc := inv.done 3 _ 72 rfl rfl rfl
    have q73 : a'.tmps.getD 73 undef = Value.slice (some a) np pc := inv.done 4 _ 73 rfl rfl rfl
    have q74 : a'.tmps.getD 74 undef = Value.int IntKind.i64 (np : Int) := inv.done 5 _ 74 rfl rfl rfl
    have q75 : a'.tmps.getD 75 undef = Value.int IntKind.i64 (k9 : Int) := inv.done 6 _ 75 rfl rfl rfl
    have q76 : a'.tmps.getD 76 undef = Value.pointer (some (a.add (k9 * 3))) := inv.done 7 _ 76 rfl rfl rfl
    have q77 : a'.tmps.getD 77 undef = Value.agg #[.int .i64 17, .slice ro' 1 rc', .string ⟨#[]⟩] := inv.done 8 _ 77 rfl rfl rfl
    have q78 : (fun _ => True) (a'.tmps.getD 78 undef)  := inv.done 9 _ 78 rfl rfl rfl
    have q79 : (fun _ => True) (a'.tmps.getD 79 undef)  := inv.done 10 _ 79 rfl rfl rfl
    have q80 : a'.tmps.getD 80 undef = Value.tuple #[.agg #[.int .u64 0, .int .u64 0, .int .u64 0, .int .u64 0, .int .u64 0, .slice none 0 0, .slice none 0 0, .slice none 0 0, .int .u64 0, .int .u64 0], .int .i64 2] := inv.done 11 _ 80 rfl rfl rfl
    have q68 : a'.tmps.getD 68 undef = Value.tuple #[.agg #[.int .u64 0, .int .u64 0, .int .u64 0, .int .u64 0, .int .u64 0, .slice none 0 0, .slice none 0 0, .slice none 0 0, .int .u64 0, .int .u64 0], .int .i64 2] := inv.done 12 _ 68 rfl rfl rfl
    have q81 : a'.tmps.getD 81 undef = Value.agg #[.int .u64 0, .int .u64 0, .int .u64 0, .int .u64 0, .int .u64 0, .slice none 0 0, .slice none 0 0, .slice none 0 0, .int .u64 0, .int .u64 0] := inv.done 13 _ 81 rfl rfl rfl
    have q82 : a'.tmps.getD 82 undef = Value.int IntKind.i64 2 := inv.done 14 _ 82 rfl rfl rfl
    have q13 : (fun _ => True) (a'.tmps.getD 13 undef)  := inv.done 15 _ 13 rfl rfl rfl
    have q14 : a'.tmps.getD 14 undef = Value.int IntKind.i64 2 := inv.done 17 _ 14 rfl rfl rfl
    clear inv
    simp only [List.filterMap_cons, List.filterMap_nil, Par.putAll, Act.put, List.setIfInBounds_toArray, List.set_cons_succ, List.set_cons_zero, q70, q72, q73, q74, q75, q76, q77, q80, q68, q81, q82, q14]
    clear q70 q72 q73 q74 q75 q76 q77 q80 q68 q81 q82 q14
    have hx9 := Rg.Mx.fin hR (by decide); have HEZ := hid (HE10.out.trans hx9); clear hx9 hR
    generalize a'.tmps.getD 69 undef = u69 at *
    generalize a'.tmps.getD 71 undef = u71 at *
    generalize a'.tmps.getD 78 undef = u78 at *
    generalize a'.tmps.getD 79 undef = u79 at *
    generalize a'.tmps.getD 13 undef = u13 at *
    try clear a'
    clear hw9 hk91 hcpl hcpm
    have HC := hid (load_any _ l w' (HRL.out.ext HEZ.out) (by have := HLL.out; omega) (HT.out.ext HEZ.out))
    obtain ⟨q, hq⟩ : ∃ q, loadR l = q := ⟨_, rfl⟩
    have HQ := hid hq
    clear hq
    go_wp2_with fail
    refine HC.out.mono ?_
    rintro e wt hp
    unfold LdP at hp
    rw [HQ.out] at hp
    clear HC
    cases q with
    | none =>
      obtain ⟨rfl, hx⟩ := hp
      have HET := hid (HEZ.out.trans hx)
      obtain ⟨⟨c0, c1, c2, c3, c4, c5, c6, c7, c8, c9⟩, -⟩ := blk10 (heap_alloc_new wt (.cells #[.int .u64 0, .int .u64 0, .int .u64 0, .int .u64 0, .int .u64 0, .slice none 0 0, .slice none 0 0, .slice none 0 0, .int .u64 0, .int .u64 0] 29 (0, 0)))
      clear hx
      go_wp2
      go_returns
      exact ⟨by first | rfl | simp, HET.out.trans (Ext.alloc _ _)⟩
    | some u =>
      obtain ⟨⟨ui', ud', uc', rfl, hin⟩, hx⟩ := hp
      obtain ⟨yi, y1, yd, y2, yc, y3, rfl, rfl, rfl⟩ := snp_shape hin
      have HIN := hid hin
      have HET := hid (HEZ.out.trans hx)
      have HLS := hid (load_some HQ.out)
      obtain ⟨u0, u1, u2, u3, u4, uit, udd, ucu, u5, u6⟩ := u
      obtain ⟨k1, hk1⟩ : ∃ x, uit.length = x := ⟨_, rfl⟩
      obtain ⟨k2, hk2⟩ : ∃ x, udd.length = x := ⟨_, rfl⟩
      obtain ⟨k3, hk3⟩ : ∃ x, ucu.length = x := ⟨_, rfl⟩
      have HUE : Hid (∀ a b c, snpC ⟨u0, u1, u2, u3, u4, uit, udd, ucu, u5, u6⟩ a b c = #[uv u0, uv u1, uv u2, uv u3, uv u4, a, b, c, uv u5, uv u6]) := hid (fun a b c => rfl)
      rw [HUE.out]
      dsimp only at HIN ⊢
      rw [hk1, hk2, hk3] at HIN ⊢
      have HK1 := hid hk1
      have HK2 := hid hk2
      have HK3 := hid hk3
      obtain ⟨WT, hWT⟩ : ∃ W, wt.alloc (.cells #[uv u0, uv u1, uv u2, uv u3, uv u4, .slice yi k1 y1, .slice yd k2 y2, .slice yc k3 y3, uv u5, uv u6] 29 (0, 0)) = W := ⟨_, rfl⟩
      have hET := Ext.alloc wt (.cells #[uv u0, uv u1, uv u2, uv u3, uv u4, .slice yi k1 y1, .slice yd k2 y2, .slice yc k3 y3, uv u5, uv u6] 29 (0, 0))
      have hbT := heap_alloc_new wt (.cells #[uv u0, uv u1, uv u2, uv u3, uv u4, .slice yi k1 y1, .slice yd k2 y2, .slice yc k3 y3, uv u5, uv u6] 29 (0, 0))
      rw [hWT] at hET hbT
      obtain ⟨⟨c0, c1, c2, c3, c4, c5, c6, c7, c8, c9⟩, -⟩ := blk10 hbT
      have HEU := hid (HET.out.trans hET)
      have hll := HLS.out.2
      have hsz : uit.length ≤ 300 ∧ udd.length ≤ 300 ∧ ucu.length ≤ 300 := by
        have h := congrArg List.length HLS.out.2
        have h2 := HLL.out
        unfold saveR bodyR at h
        simp only [List.length_append, List.length_map, List.length_cons, List.length_nil] at h
        omega
      have hsv := (show Calls Tryd.prog _ _ WT (fun e w' => (∃ v, e = .returned (.tuple #[v, .int .i64 0]) ∧ RcsO w' WT.heap.size 62 v l) ∧ Ext WT w') from (save_any ⟨u0, u1, u2, u3, u4, uit, udd, ucu, u5, u6⟩ _ _ _ WT (HIN.out.ext hET) (by dsimp only; omega)).mono fun e w' h => by
        rw [HLS.out.1, HLS.out.2, if_pos (show true = true from rfl)] at h
        exact h)
      rw [HUE.out] at hsv
      have HC := hid hsv
      clear hx hin hk1 hk2 hk3 hET hbT hll hsz hsv
      go_wp2_with (first | rw [hWT] | fail)
      refine HC.out.mono ?_
      rintro e wu ⟨⟨v6, rfl, ho⟩, hx⟩
      obtain ⟨ro, rc, rfl⟩ := ho.open
      have HEV := hid (HEU.out.trans hx)
      have HO6 := hid ho
      clear ho hx HC hWT c0 c1 c2 c3 c4 c5 c6 c7 c8 c9
      have HC := hid (owns13_any _ l wu HO6.out.rcs (by have := HLL.out; omega))
      go_wp2_with fail
      refine HC.out.mono ?_
      rintro e wv ⟨⟨u7, rfl, h7⟩, hx⟩
      have HEW := hid (HEV.out.trans hx)
      have H7 := hid h7
      obtain ⟨s7, n7, k7, rfl⟩ : ∃ a b c, u7 = .slice a b c := by
        obtain ⟨mm, _, hr, -⟩ := h7
        obtain ⟨ao, cap, rfl, -⟩ := hr.open
        exact ⟨_, _, _, rfl⟩
      clear h7 hx HC HO6
      have HC := hid (owns13_any _ l wv (HRL.out.ext HEW.out) (by have := HLL.out; omega))
      go_wp2_with fail
      refine HC.out.mono ?_
      rintro e wx ⟨⟨u8, rfl, h8⟩, hx⟩
      have HEX := hid (HEW.out.trans hx)
      have H7x := hid (H7.out.ext hx)
      have H8 := hid h8
      obtain ⟨s8, n8, k8, rfl⟩ : ∃ a b c, u8 = .slice a b c := by
        obtain ⟨mm, _, hr, -⟩ := h8
        obtain ⟨ao, cap, rfl, -⟩ := hr.open
        exact ⟨_, _, _, rfl⟩
      clear h8 hx HC H7
      have hc := rsames5_any _ _ l l wx H7x.out H8.out (by have := HLL.out; omega) (by have := HLL.out; omega)
      rw [recsame_eq rfl] at hc
      have HC := hid hc
      clear hc
      go_wp2_with fail
      refine HC.out.mono ?_
      rintro e wy ⟨rfl, hx⟩
      have HEY := hid (HEX.out.trans hx)
      clear hx HC
      go_wp2
      go_returns
      exact ⟨by first | rfl | simp, HEY.out⟩
end Go.Proofs.YtpbmbjdiilnaeaaDoor

namespace Go.Proofs.YtpbmbjdiilnaeaaDoor.snapBack
open Go.ChangeShapes Go.WideShapes Go.ChangeAt Go.RowKit
set_option linter.unusedVariables false
set_option maxRecDepth 100000

theorem own : ownKnob Tryd.prog.godebug = none := by kernel_rfl
theorem kid1 : laidOutB Tryd.prog = true := by kernel_rfl
theorem kid2 : mapsRowed Tryd.prog = true := by kernel_rfl
theorem kid3 : ((List.range Tryd.prog.types.size).all fun t => match Tryd.prog.underlying t with | some (.slice e) => decide (0 < Tryd.prog.cellsOf e) | _ => true) = true := by kernel_rfl
theorem kid4 : ∀ t ∈ Tryd.f4.params.toList, t < Tryd.prog.types.size := by decide +kernel
theorem gTab : Tryd.prog.globalNamed "tumbrel/record.numbers" = some 0 := by kernel_rfl
theorem gTabType : (Tryd.prog.globals[0]?).map (·.type) = some 97 := by kernel_rfl
theorem cellsT : Tryd.prog.cellsOf 97 = 18 := by kernel_rfl
theorem cellsE : Tryd.prog.cellsOf 3 = 1 := by kernel_rfl
theorem table {W : World} (h : laidMetH Tryd.prog Rows.snapBackRow.laid W) : Tab W := by
  have ht : Lib.TabIs Tryd.prog W "tumbrel/record.numbers" .i64 tabZ :=
    Lib.tabIs_of_head (rest := []) gTab gTabType Tryd.underlying97 Tryd.underlying3 cellsE cellsT h
  intro i hi
  rw [← tabZ_at ⟨i, hi⟩]
  exact ht.cell gTab i hi

theorem contract (H : Type) (enc : TypeId × Value → H) (W : World) (base : Nat) (args : Array Value) (ds gs : List (DataW H)) (before : List MemPlace)
    (hval : ∀ (j : Nat) t v, Tryd.f4.params[j]? = some t → args[j]? = some v → Value.okWide Tryd.prog W .any base t v)
    (hW : DataW.Whole enc Tryd.prog Tryd.f4.params.toList Rows.snapBackSpec.vars false W args.toList ds gs before) (hL : laidMetH Tryd.prog Rows.snapBackRow.laid W)
    (hz : (DataW.weightsEach Tryd.prog (Tryd.f4.params.toList ++ (OpenSpec.ofChange Rows.snapBackSpec).bare.plain.varTypes Tryd.prog) (ds ++ gs)).all (· ≤ reachBytes) = true) :
    Calls Tryd.prog 4 args W fun e W' => ∃ v, e = .returned v ∧ Rows.snapBackSpec.post enc Tryd.prog Tryd.f4 false true false false W args v W' := by
  have hW' := hW
  obtain ⟨p, q, hA0, hV, rfl, hfz, hnd⟩ := hW
  have hA : DataW.TrodAll enc Tryd.prog W 0 (fun _ => true) true Tryd.f4.params.toList args.toList ds p := hA0
  rw [Tryd.params4] at hA hval
  obtain ⟨v0, vs0, d0, ds0, p0, q0, hargs, rfl, rfl, h0, r0⟩ := trodAll_cons hA
  obtain ⟨v1, vs1, d1, ds1, p1, q1, rfl, rfl, rfl, h1, r1⟩ := trodAll_cons r0
  obtain ⟨v2, vs2, d2, ds2, p2, q2, rfl, rfl, rfl, h2, r2⟩ := trodAll_cons r1
  obtain ⟨rfl, rfl, rfl⟩ := trodAll_nil r2
  obtain rfl : args = #[v0, v1, v2] := by cases args; simp_all
  obtain ⟨rfl, rfl⟩ := trodVars_none hV
  obtain ⟨s0, vi0, vd0, vc0, rfl, hs0, hsz⟩ := open_snapZ (hval 0 29 v0 rfl rfl) h0
  obtain ⟨m1, hm1⟩ := open_recs (hval 1 30 v1 rfl rfl) h1
  obtain ⟨a2, rfl, rfl, rfl, w2⟩ := open_int Tryd.underlying3 (hval 2 3 v2 rfl rfl) h2
  have b2 := Go.Tum.i64_wf w2
  refine (snapBack_law s0 vi0 vd0 vc0 v1 m1 a2 W hs0 hm1 b2 (table hL) (snap_sizes hz (j := 0) rfl rfl hsz)).mono fun e W' ⟨he, hg⟩ => ?_
  subst he
  exact ⟨_, rfl, Go.Tum.law_post kid1 kid2 kid3 kid4 rfl Tryd.underlying4 hW' rfl rfl hg⟩

/-- A world for the witness: the settled one, the table laid. -/
noncomputable def laidWorld (os : Os) : World :=
  { World.holding Tryd.prog os ⟨#[], #[], []⟩ with heap := (World.holding Tryd.prog os ⟨#[], #[], []⟩).heap.modify 0 fun
      | .cells _ t frozen => .cells (tabZ.map fun z => Value.int .i64 z).toArray t frozen
      | o => o }
theorem laid_met (os : Os) : laidMet Tryd.prog Rows.snapBackRow.laid ((laidWorld os).forCall (fun _ _ => 0) ⟨#[], #[.agg #[.int .u64 0, .int .u64 0, .int .u64 0, .int .u64 0, .int .u64 0, .slice none 0 0, .slice none 0 0, .slice none 0 0, .int .u64 0, .int .u64 0], .slice none 0 0, .int .i64 0], []⟩).memory :=
  laidMet_of_run' 8 (by kernel_rfl) (by kernel_rfl)
theorem reads (os : Os) {H : Type} (enc : TypeId × Value → H) : ∃ places, DataW.whole enc Tryd.prog ((laidWorld os).forCall (fun _ _ => 0) ⟨#[], #[.agg #[.int .u64 0, .int .u64 0, .int .u64 0, .int .u64 0, .int .u64 0, .slice none 0 0, .slice none 0 0, .slice none 0 0, .int .u64 0, .int .u64 0], .slice none 0 0, .int .i64 0], []⟩).memory Tryd.f4.params.toList Rows.snapBackSpec.vars false #[Value.agg #[.int .u64 0, .int .u64 0, .int .u64 0, .int .u64 0, .int .u64 0, .slice none 0 0, .slice none 0 0, .slice none 0 0, .int .u64 0, .int .u64 0], .slice none 0 0, .int .i64 0].toList 8 = some ([.agg [.agg [.lit (.int .u64 0), .lit (.int .u64 0), .lit (.int .u64 0), .lit (.int .u64 0), .lit (.int .u64 0), .nil, .nil, .nil], .lit (.int .u64 0), .lit (.int .u64 0)], .nil, .lit (.int .i64 0)], [], places) :=
  ⟨[], by kernel_rfl⟩

set_option maxRecDepth 100000 in
theorem lifted (os : Os) (started : os.Started) (H : Type) (enc : TypeId × Value → H) (F : Stop.Interp) :
    ReturnsInHanded {} Tryd.checked os 4 .any ((OpenSpec.ofChange Rows.snapBackSpec).preRow enc Tryd.prog Tryd.f4 Rows.snapBackRow.domain false Rows.snapBackRow.laid) (((OpenSpec.ofChange Rows.snapBackSpec).at F).post enc Tryd.prog Tryd.f4 false true false false) := by
  obtain ⟨places, hx⟩ := reads os enc
  refine returnsInHanded_of_row (C := Tryd.checked) (s := OpenSpec.ofChange Rows.snapBackSpec) own started (by kernel_rfl) Tryd.func4
    (witness_row_at (enc := enc) (C := Tryd.checked) false (laidWorld os) #[.agg #[.int .u64 0, .int .u64 0, .int .u64 0, .int .u64 0, .int .u64 0, .slice none 0 0, .slice none 0 0, .slice none 0 0, .int .u64 0, .int .u64 0], .slice none 0 0, .int .i64 0] rfl (by kernel_rfl) (by kernel_rfl) (by kernel_rfl)
      (OpenSpec.preRow_of_cond 8 hx (by kernel_rfl) (fun k hk => by cases hk) (by kernel_rfl) (laid_met os))) ?_
  intro W base args ds gs before hval hW _ _ hz hL _ _
  exact contract H enc W base args ds gs before hval hW hL hz

theorem said : Rows.SnapBackSaid :=
  OpenClaim.holds_of_cond 4 Tryd.f4 rfl rfl rfl rfl rfl rfl rfl ⟨rfl, rfl, rfl, rfl, rfl⟩ rfl rfl rfl rfl rfl (by kernel_rfl) Tryd.func4 (by kernel_rfl)
    (of_decide_eq_true (by kernel_rfl)) (by unfold Func.isWrapper; first | (rw [if_pos (by decide +kernel)]; kernel_rfl) | (rw [if_neg (by decide +kernel)]; exact ⟨rfl, rfl⟩))
    (fun os started H enc _ F => by rw [OpenClaim.pre_eq_preRow]; exact lifted os started H enc F)

theorem plain (f : FuncId) (fn : Func) (hf : Tryd.pinned.checked.prog.funcNamed "tumbrel/tumbrellaw13.SnapBack" = some f) (hfn : Tryd.pinned.checked.prog.funcs[f]? = some fn) :
    false = Tryd.pinned.checked.prog.looks [] ∧ ∀ (j : Nat) t, fn.params[j]? = some t → Tryd.pinned.checked.prog.wantsStandIn t = false := by
  obtain rfl : f = 4 := Option.some.inj ((show Tryd.prog.funcNamed "tumbrel/tumbrellaw13.SnapBack" = some 4 by kernel_rfl).symm.trans hf) |>.symm
  obtain rfl : fn = Tryd.f4 := (Option.some.inj (Tryd.func4.symm.trans hfn)).symm
  refine ⟨by kernel_rfl, fun j t ht => ?_⟩
  rw [Tryd.params4] at ht
  have hm := Array.mem_of_getElem? ht
  have hall : ∀ t ∈ Tryd.f4.params.toList, Tryd.prog.wantsStandIn t = false := by decide +kernel
  rw [Tryd.params4] at hall
  exact hall t (by simpa using hm)

theorem proved : Rows.SnapBackCardSaid :=
  Claim7.holds_tied_plain_at .later [] _ _ _ _ said (fun _ h => by cases h) (by kernel_rfl) (fun _ h => by cases h) snapBack_row_tie rfl ⟨rfl, rfl⟩ (by kernel_rfl) rfl plain (by kernel_rfl)
end Go.Proofs.YtpbmbjdiilnaeaaDoor.snapBack

