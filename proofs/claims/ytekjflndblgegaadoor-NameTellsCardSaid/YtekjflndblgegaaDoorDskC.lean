/- alter. -/
import Derived.Test.YtekjflndblgegaaDoorDskB
import Derived.Test.YtekjflndblgegaaDoorRg
import Derived.Maps.AppendAt
set_option linter.unusedSimpArgs false
set_option linter.unusedVariables false
namespace Go.Proofs.YtekjflndblgegaaDoor
open Go Go.RowKit Go.Tum Go.ChangeMaps
open Go.ParB (upd Lof)
open Go.ParE (putS slotsR slots Closed)

theorem infoChg : (Tryd.prog.info? 61).map (fun i => (i.zero, i.size, i.bytes)) = some (some (.agg #[.string ⟨#[]⟩, .string ⟨#[]⟩, .pointer none]), 3, 40) := by kernel_rfl
theorem oB_own {v : Value} {g : Nat} (h : v.ownBlock = some g) : oB v = [g] := by unfold oB; rw [h]
theorem below_grown {w w' : World} {b e s n : Nat} {v : Value} {xs : List Value} (h : w.ownsRow b e s v n xs) (hb : b ≤ w.heap.size) (k : w.grownBy w' v.ownBlock) : Below b w w' := by
  refine (Below.refl b w).grown k hb fun j ej => ?_
  rcases h.2 with ⟨rfl, _⟩ | ⟨g, cap, cur, rfl, hb, _, _⟩
  · simp [Value.ownBlock] at ej
  · obtain rfl : g = j := by simpa [Value.ownBlock] using ej
    exact hb
theorem fr_grown {w w' : World} {b : Nat} {v : Value} (k : w.grownBy w' v.ownBlock) (e : Below b w w') : Fr (oB v) w w' :=
  ⟨e.os, e.tape, e.output, e.size, fun j hj hn => k.block j hj fun h => hn (by rw [oB_own h.symm]; simp)⟩
theorem oB_at {v v' : Value} {n : Nat} (h : v'.ownBlock = v.ownBlock ∨ v'.ownBlock = some n) : ∀ q ∈ oB v', q ∈ oB v ∨ n ≤ q := by
  intro q hq
  rcases h with h | h
  · left; unfold oB at hq ⊢; rw [h] at hq; exact hq
  · right; rw [oB_own h] at hq; simp at hq; omega
theorem row_shape {w : World} {b e s n : Nat} {v : Value} {xs : List Value} (h : w.ownsRow b e s v n xs) : ∃ ao cap, v = .slice ao n cap := by
  rcases h.2 with ⟨a, b⟩ | ⟨g, cap, cur, hv, _⟩
  · subst b; exact ⟨_, _, a⟩
  · exact ⟨_, _, hv⟩
theorem run_app_chg (base ty : Nat) {w : World} {v : Value} {n : Nat} {xs : List Value} (hown : w.ownsRow base 61 3 v n xs) {g : Nat} {a b f : Value} {t2 : TypeId} (hg : w.heap[g]? = some (.cells #[a, b, f] t2 (0, 0)))
    (h1 : a.oneCell' = true) (h2 : b.oneCell' = true) (h3 : f.oneCell' = true) (hn : n ≤ 1000000) (hbase : base ≤ w.heap.size) :
    ∃ v' w', (Builtin.append_ #[50, 50] ty #[v, .slice (some ⟨g, 0, none⟩) 1 1]).run Tryd.prog w = .ok v' w' ∧ w'.ownsRow base 61 3 v' (n + 1) (xs ++ [a, b, f]) ∧ Fr (oB v) w w' ∧ Below base w w' ∧ ∀ q ∈ oB v', q ∈ oB v ∨ w.heap.size ≤ q := by
  obtain ⟨i, hi1, hz, hs, hby⟩ := info_parts infoChg
  obtain ⟨v', w', r1, r2, r3, -, r5⟩ := run_append_own_at (P := Tryd.prog) w base 50 ty 61 i _ 3 40 Tryd.underlying50 hi1 hz hs hby rfl (by decide) v n xs hown ⟨g, 0, none⟩ 1 1 [a, b, f] rfl (by
    intro j u hu
    have e1 : (⟨g, 0, none⟩ : Addr).add j = ⟨g, j, none⟩ := by unfold Addr.add; split <;> simp_all
    rw [e1, cell_of_row _ _ _ _ _ _ hg]
    simpa using hu) (by
    intro u hu
    simp at hu
    rcases hu with rfl | rfl | rfl <;> assumption) (by simp [maxLen]; omega) (by omega) hbase
  have hb := below_grown hown hbase r3
  exact ⟨v', w', r1, r2, fr_grown r3 hb, hb, oB_at r5⟩
theorem ptr_one (b : Option Nat) : (ptr b).oneCell' = true := by cases b <;> rfl

section
variable {B : Nat} {w w' : World} {p : Nat} {x : DX} {s : PS}
theorem Dk.p_md (h : Dk B w p x s) : p ≠ x.md := by
  rintro e
  obtain ⟨es, ck, hb⟩ := h.dr.block
  rw [← e, h.hd] at hb; cases hb
theorem Dk.p_ms (h : Dk B w p x s) : p ≠ x.ms := by
  rintro e
  obtain ⟨es, ck, hb⟩ := h.sr.block
  rw [← e, h.hd] at hb; cases hb
theorem Dk.p_bk (h : Dk B w p x s) {i : Nat} (hi : i < s.files.length) : p ≠ x.bk i := by
  rintro e
  have := (h.fi i hi).1
  rw [← e, h.hd] at this; simp at this
theorem Dk.md_bk (h : Dk B w p x s) {i : Nat} (hi : i < s.files.length) : x.md ≠ x.bk i := by
  rintro e
  obtain ⟨es, ck, hb⟩ := h.dr.block
  have := (h.fi i hi).1
  rw [← e, hb] at this; cases this
theorem Dk.ms_bk (h : Dk B w p x s) {i : Nat} (hi : i < s.files.length) : x.ms ≠ x.bk i := by
  rintro e
  obtain ⟨es, ck, hb⟩ := h.sr.block
  have := (h.fi i hi).1
  rw [← e, hb] at this; cases this
theorem row_no {w : World} {b e s2 n : Nat} {v : Value} {xs : List Value} {q : Nat} {o : Obj} (h : w.ownsRow b e s2 v n xs) (hq : w.heap[q]? = some o) (ho : ∀ cs, o ≠ .cells cs e (0, 0)) : q ∉ oB v := by
  intro hm
  rcases h.2 with ⟨hv, -⟩ | ⟨g, cap, cur, hv, hb, hgg, rest⟩
  · rw [hv] at hm; simp [oB, Value.ownBlock] at hm
  · rw [hv] at hm
    simp [oB, Value.ownBlock] at hm
    subst hm
    rw [hq] at hgg; cases hgg; exact ho _ rfl
/-- Two rows of elements of unlike types. -/
theorem row_far {w : World} {b b2 e e2 s2 s3 n n2 : Nat} {v v2 : Value} {xs ys : List Value} (h : w.ownsRow b e s2 v n xs) (h2 : w.ownsRow b2 e2 s3 v2 n2 ys) (hne : e ≠ e2) : ∀ q ∈ oB v, q ∉ oB v2 := by
  intro q hq
  rcases h.2 with ⟨hv, -⟩ | ⟨g, cap, cur, hv, hb, hgg, rest⟩
  · rw [hv] at hq; simp [oB, Value.ownBlock] at hq
  · rw [hv] at hq
    simp [oB, Value.ownBlock] at hq
    subst hq
    exact row_no h2 hgg (by intro cs e3; cases e3; exact hne rfl)
theorem Dk.bk_op (h : Dk B w p x s) {i : Nat} (hi : i < s.files.length) : x.bk i ∉ oB x.vo := row_no h.op (h.fi i hi).1 (by intro cs e; simp at e)
/-- The directory's map, and the row of changes, may have turned: a change more. -/
theorem Dk.altered (h : Dk B w p x s) (c : Chg) (vo' : Value) (hg : Gd (altP c s)) (hd : w'.heap[p]? = some (diskO { x with vo := vo' } (altP c s)))
    (hm : PM w' x.md (appC (x.hb s.dir) ⟨c.frm, c.to, c.file.map x.bk⟩)) (ho : w'.ownsRow B 61 3 vo' (s.opn.length + 1) (s.opn.flatMap x.cc ++ x.cc c)) (f : Fr (p :: x.md :: oB x.vo) w w') : Dk B w' p { x with vo := vo' } (altP c s) := by
  refine ⟨hd, ?_, ?_, ?_, h.fn, fun i hi => ?_, h.fd, h.od, h.ne, h.lo, hg⟩
  · have : (altP c s).dir = appC s.dir c := by
      unfold PS.dir altP dirAt
      simp only [List.foldl_append, List.foldl_cons, List.foldl_nil]
    rw [this]
    show PM w' x.md (x.hb (appC s.dir c))
    rw [hb_app]; exact hm
  · refine h.sr.fr f ?_
    simp only [List.mem_cons, not_or]
    refine ⟨Ne.symm h.p_ms, Ne.symm h.ne, fun hq => ?_⟩
    obtain ⟨es, ck, hb⟩ := h.sr.block
    exact row_no h.op hb (by intro cs e; cases e) hq
  · show w'.ownsRow B 61 3 vo' (s.opn ++ [c]).length ((s.opn ++ [c]).flatMap x.cc)
    rw [List.length_append, List.flatMap_append]
    simpa using ho
  · obtain ⟨a, b⟩ := h.fi i hi
    refine ⟨(f.block _ (Array.getElem?_eq_some_iff.1 a).1 ?_).trans a, ownsRow_fr b f fun q hq => ?_⟩
    · simp only [List.mem_cons, not_or]
      exact ⟨Ne.symm (h.p_bk hi), Ne.symm (h.md_bk hi), h.bk_op hi⟩
    · simp only [List.mem_cons, not_or]
      refine ⟨?_, ?_, row_far b h.op (by decide) q hq⟩
      · rintro rfl; exact row_no b h.hd (by intro cs e; simp at e) hq
      · rintro rfl
        obtain ⟨es, ck, hb⟩ := h.dr.block
        exact row_no b hb (by intro cs e; cases e) hq
end
theorem row_lo {w : World} {b e s2 n : Nat} {v : Value} {xs : List Value} (h : w.ownsRow b e s2 v n xs) : ∀ q ∈ oB v, b ≤ q := by
  intro q hm
  rcases h.2 with ⟨hv, -⟩ | ⟨g, cap, cur, hv, hb, hgg, rest⟩
  · rw [hv] at hm; simp [oB, Value.ownBlock] at hm
  · rw [hv] at hm
    simp [oB, Value.ownBlock] at hm
    subst hm; exact hb
theorem chg_stored {B p n : Nat} {W1 w : World} {x : DX} {s : PS} {c : Chg} {v : Value} {xs : List Value} (hp : w.heap[p]? = some (diskO x s)) (h1 : w.ownsRow B 61 3 v n xs) (h2 : Fr (oB x.vo) W1 w) (h3 : ∀ q ∈ oB v, q ∈ oB x.vo ∨ W1.heap.size ≤ q) :
    ∃ vo', (w.setCell ⟨p, 3, none⟩ v).heap[p]? = some (diskO { x with vo := vo' } (altP c s)) ∧ (w.setCell ⟨p, 3, none⟩ v).ownsRow B 61 3 vo' n xs ∧ Fr (p :: oB x.vo) W1 (w.setCell ⟨p, 3, none⟩ v) ∧ ∀ q ∈ oB vo', q ∈ oB x.vo ∨ W1.heap.size ≤ q := by
  refine ⟨v, block_set6 hp 3 v, ownsRow_fr (S := [p]) h1 (fr_setCell _ _ _ (by simp)) (fun q hq hq2 => ?_), (h2.mono (by intro q hq; simp [hq])).trans (fr_setCell _ _ _ (by simp)), h3⟩
  obtain rfl : q = p := by simpa using hq2
  exact row_no h1 hp (by intro cs e; simp at e) hq
set_option maxRecDepth 100000 in
set_option maxHeartbeats 2000000 in
theorem dalt_any {B : Nat} {w : World} {p : Nat} {x : DX} {s : PS} (c : Chg) (h : Dk B w p x s) (h1 : c.frm.length ≤ maxLen) (h2 : c.to.length ≤ maxLen) (hg : Gd (altP c s)) (hB : B ≤ w.heap.size) (hl : s.opn.length ≤ 100000) :
    Calls Tryd.prog 25 #[pv p, .agg #[vN c.frm, vN c.to, ptr (c.file.map x.bk)]] w fun e w' => (∃ u, e = .returned u) ∧ Stp B w p x (altP c s) w' := by
  have H := hid h
  have HG := hid hg
  obtain ⟨⟨-, c1, -, c3, -, -⟩, -⟩ := lk6 h.hd
  obtain ⟨ao, cap, hvo⟩ := row_shape h.op
  have hnb := heap_alloc_new w (.cells #[vN c.frm, vN c.to, ptr (c.file.map x.bk)] 61 (0, 0))
  have hE := Ext.alloc w (.cells #[vN c.frm, vN c.to, ptr (c.file.map x.bk)] 61 (0, 0))
  obtain ⟨pf, hpf⟩ : ∃ v, ptr (c.file.map x.bk) = v := ⟨_, rfl⟩
  have hpo : pf.oneCell' = true := by rw [← hpf]; exact ptr_one _
  have HPF := hid hpf
  rw [hpf] at hnb hE ⊢
  clear h hg
  go_enter Tryd.func25, Tryd.ntmps25
  go_wp2_with fail
  obtain ⟨W, hW⟩ : ∃ W, w.alloc (.cells #[vN c.frm, vN c.to, pf] 61 (0, 0)) = W := ⟨_, rfl⟩
  rw [hW] at hnb hE ⊢
  have HNB := hid hnb
  have HE := hid hE
  have C1 := hid (hE.cell c1)
  clear hW hnb hE c1
  refine ParE.wp_region_e (l := [_, _, _, _, _, _]) rfl (Rg.R1 W 5 (fun w' => PM w' x.md (appC (x.hb s.dir) ⟨c.frm, c.to, c.file.map x.bk⟩) ∧ Fr [x.md] W w')) (ParC.VC [ParC.EQ (pv p), ParC.EQ (pv p), ParC.EQ (Value.pointer (some ⟨p, 1, none⟩)), ParC.EQ (Value.map (some x.md)), ParC.EQ (Value.agg #[vN c.frm, vN c.to, pf]), (fun _ => True)]) (by kernel_rfl) (by kernel_rfl) (Rg.R1.start) ?_ ?_
  · refine ⟨fun L ρ w' hR hC hL hd hk => ?_, ?_⟩
    · exact Par.val_of_run rfl ⟨hR.other (by decide), hk.1⟩
    refine ⟨fun L ρ w' hR hC hL hd hk => ?_, ?_⟩
    · obtain ⟨k0, -⟩ := hk
      have e0 : ρ (.tmp 4) = pv p := k0
      clear k0
      refine Par.val_k fun K hK => ?_
      unfold Par.val
      (go_simp; exact hK _ _ ⟨hR.other (by decide), rfl⟩)
    refine ⟨fun L ρ w' hR hC hL hd hk => ?_, ?_⟩
    · obtain ⟨k0, -⟩ := hk
      have e0 : ρ (.tmp 5) = pv p := k0
      clear k0
      refine Par.val_k fun K hK => ?_
      unfold Par.val
      (go_simp; exact hK _ _ ⟨hR.other (by decide), rfl⟩)
    refine ⟨fun L ρ w' hR hC hL hd hk => ?_, ?_⟩
    · obtain ⟨k0, -⟩ := hk
      have e0 : ρ (.tmp 6) = Value.pointer (some ⟨p, 1, none⟩) := k0
      clear k0
      refine Par.val_k fun K hK => ?_
      unfold Par.val
      (have hx := hR.a (hC.notyet 5 3 hL (by kernel_rfl)); have cc := hx.cell C1.out; go_simp; exact hK _ _ ⟨hR.other (by decide), rfl⟩)
    refine ⟨fun L ρ w' hR hC hL hd hk => ?_, ?_⟩
    · obtain ⟨k0, -⟩ := hk
      have e0 : ρ (.tmp 3) = Value.pointer (some ⟨w.heap.size, 0, none⟩) := k0
      clear k0
      refine Par.val_k fun K hK => ?_
      unfold Par.val
      (have hx := hR.a (hC.notyet 5 4 hL (by kernel_rfl)); obtain ⟨q0, q1, q2, -⟩ := lk3 (hx.obj HNB.out); go_simp; exact hK _ _ ⟨hR.other (by decide), rfl⟩)
    refine ⟨fun L ρ w' hR hC hL hd hk => ?_, ?_⟩
    · obtain ⟨k0, k1, k2, -⟩ := hk
      have e0 := k0
      have e1 : ρ (.tmp 7) = Value.map (some x.md) := k1
      have e2 : ρ (.tmp 8) = Value.agg #[vN c.frm, vN c.to, pf] := k2
      clear k0 k1 k2
      refine Par.val_k fun K hK => ?_
      unfold Par.val
      (have hx := hR.a hL; have hD := H.out.ext (HE.out.trans hx); rw [← HPF.out] at e2; refine Par.val_call Tryd.func29 (by kernel_rfl) rfl e0 ?_; simp only [List.map_toArray, List.map_cons, List.map_nil, e1, e2]; refine (dapp_any w' x.md (x.hb s.dir) ⟨c.frm, c.to, c.file.map x.bk⟩ hD.dr (hb_sorted hD.gd.dirs) (by rw [hb_len]; have := hD.gd.dl; omega) h1 h2).mono ?_; rintro e w2 ⟨⟨u, rfl⟩, q1, q2⟩; exact ⟨_, rfl, hK _ _ ⟨Rg.R1.last ⟨q1, (Ext.fr hx).trans q2⟩, trivial⟩⟩)
    trivial
  intro a' w' inv hR
  have q4 : a'.tmps.getD 4 undef = pv p := inv.done 0 _ 4 rfl rfl rfl
  have q5 : a'.tmps.getD 5 undef = pv p := inv.done 1 _ 5 rfl rfl rfl
  have q6 : a'.tmps.getD 6 undef = Value.pointer (some ⟨p, 1, none⟩) := inv.done 2 _ 6 rfl rfl rfl
  have q7 : a'.tmps.getD 7 undef = Value.map (some x.md) := inv.done 3 _ 7 rfl rfl rfl
  have q8 : a'.tmps.getD 8 undef = Value.agg #[vN c.frm, vN c.to, pf] := inv.done 4 _ 8 rfl rfl rfl
  have q9 : (fun _ => True) (a'.tmps.getD 9 undef)  := inv.done 5 _ 9 rfl rfl rfl
  clear inv
  simp only [List.filterMap_cons, List.filterMap_nil, Par.putAll, Act.put, List.setIfInBounds_toArray, List.set_cons_succ, List.set_cons_zero, q4, q5, q6, q7, q8]
  clear q4 q5 q6 q7 q8
  generalize a'.tmps.getD 9 undef = u9 at *
  try clear a'
  obtain ⟨q1, q2⟩ := hR.z rfl
  clear hR
  obtain ⟨W1, hW1⟩ : ∃ W1, W1 = w' := ⟨_, rfl⟩
  subst hW1
  have hmd : x.md < w.heap.size := by
    obtain ⟨es, ck, hb⟩ := H.out.dr.block
    exact (Array.getElem?_eq_some_iff.1 hb).1
  have hpl : p < w.heap.size := (Array.getElem?_eq_some_iff.1 H.out.hd).1
  have F1 : Hid (Fr [x.md] w W1) := hid ((Ext.fr HE.out).trans q2)
  have HM := hid q1
  have HNB1 : Hid (W1.heap[w.heap.size]? = some (.cells #[vN c.frm, vN c.to, pf] 61 (0, 0))) := hid ((q2.block _ (Array.getElem?_eq_some_iff.1 HNB.out).1 (by simp; omega)).trans HNB.out)
  have HP1 : Hid (W1.heap[p]? = some (diskO x s)) := hid ((F1.out.block p hpl (by simpa using H.out.p_md)).trans H.out.hd)
  have HO1 : Hid (W1.ownsRow B 61 3 x.vo s.opn.length (s.opn.flatMap x.cc)) := hid (ownsRow_fr H.out.op F1.out (fun q hq hq2 => by
    obtain rfl : q = x.md := by simpa using hq2
    obtain ⟨es, ck, hb⟩ := H.out.dr.block
    exact row_no H.out.op hb (by intro cs e; cases e) hq))
  have C3 : Hid (W1.cell? ⟨p, 3, none⟩ = some (.slice ao s.opn.length cap)) := hid (by rw [← hvo]; exact (lk6 HP1.out).1.2.2.2.1)
  have HB1 : Hid (B ≤ W1.heap.size) := hid (Nat.le_trans hB F1.out.size)
  have HVO := hid hvo
  have hEsz := F1.out.size
  have HB0 := hid hB
  clear q1 q2 hpf hvo hB
  go_wp2_with fail
  refine ParE.wp_region_e (l := [_, _, _, _, _, _, _, _, _, _, _]) rfl (Rg.R3 W1 6 16 7 17 10 (fun v w' => Ext W1 w' ∧ ∃ g, v = .slice (some ⟨g, 0, none⟩) 1 1 ∧ w'.heap[g]? = some (.cells #[vN c.frm, vN c.to, pf] 61 (0, 0))) (fun v w' => w'.ownsRow B 61 3 v (s.opn.length + 1) (s.opn.flatMap x.cc ++ [vN c.frm, vN c.to, pf]) ∧ Fr (oB x.vo) W1 w' ∧ ∀ q ∈ oB v, q ∈ oB x.vo ∨ W1.heap.size ≤ q) (fun w' => ∃ vo', w'.heap[p]? = some (diskO { x with vo := vo' } (altP c s)) ∧ w'.ownsRow B 61 3 vo' (s.opn.length + 1) (s.opn.flatMap x.cc ++ [vN c.frm, vN c.to, pf]) ∧ Fr (p :: oB x.vo) W1 w' ∧ ∀ q ∈ oB vo', q ∈ oB x.vo ∨ W1.heap.size ≤ q)) (ParC.VC [ParC.EQ (pv p), ParC.EQ (pv p), ParC.EQ (pv p), ParC.EQ (Value.pointer (some ⟨p, 3, none⟩)), ParC.EQ (Value.slice ao s.opn.length cap), ParC.EQ (Value.agg #[vN c.frm, vN c.to, pf]), (fun _ => True), (fun _ => True), ParC.EQ (pv p), ParC.EQ (Value.pointer (some ⟨p, 3, none⟩)), fun _ => True]) (by kernel_rfl) (by kernel_rfl) (Rg.R3.start) ?_ ?_
  · refine ⟨fun L ρ w' hR hC hL hd hk => ?_, ?_⟩
    · exact Par.val_of_run rfl ⟨hR.other (by decide), hk.1⟩
    refine ⟨fun L ρ w' hR hC hL hd hk => ?_, ?_⟩
    · exact Par.val_of_run rfl ⟨hR.other (by decide), hk.1⟩
    refine ⟨fun L ρ w' hR hC hL hd hk => ?_, ?_⟩
    · obtain ⟨k0, -⟩ := hk
      have e0 : ρ (.tmp 11) = pv p := k0
      clear k0
      refine Par.val_k fun K hK => ?_
      unfold Par.val
      (go_simp; exact hK _ _ ⟨hR.other (by decide), rfl⟩)
    refine ⟨fun L ρ w' hR hC hL hd hk => ?_, ?_⟩
    · obtain ⟨k0, -⟩ := hk
      have e0 : ρ (.tmp 12) = pv p := k0
      clear k0
      refine Par.val_k fun K hK => ?_
      unfold Par.val
      (go_simp; exact hK _ _ ⟨hR.other (by decide), rfl⟩)
    refine ⟨fun L ρ w' hR hC hL hd hk => ?_, ?_⟩
    · obtain ⟨k0, -⟩ := hk
      have e0 : ρ (.tmp 13) = Value.pointer (some ⟨p, 3, none⟩) := k0
      clear k0
      refine Par.val_k fun K hK => ?_
      unfold Par.val
      (have hx := hR.a (hC.notyet 7 4 hL (by kernel_rfl)) (hC.notyet 10 4 hL (by kernel_rfl)); have cc := hx.cell C3.out; go_simp; exact hK _ _ ⟨hR.other (by decide), rfl⟩)
    refine ⟨fun L ρ w' hR hC hL hd hk => ?_, ?_⟩
    · obtain ⟨k0, -⟩ := hk
      have e0 : ρ (.tmp 3) = Value.pointer (some ⟨w.heap.size, 0, none⟩) := k0
      clear k0
      refine Par.val_k fun K hK => ?_
      unfold Par.val
      (have hx := hR.a (hC.notyet 7 5 hL (by kernel_rfl)) (hC.notyet 10 5 hL (by kernel_rfl)); obtain ⟨q0, q1, q2, -⟩ := lk3 (hx.obj HNB1.out); go_simp; exact hK _ _ ⟨hR.other (by decide), rfl⟩)
    refine ⟨fun L ρ w' hR hC hL hd hk => ?_, ?_⟩
    · obtain ⟨k0, -⟩ := hk
      have e0 : ρ (.tmp 15) = Value.agg #[vN c.frm, vN c.to, pf] := k0
      clear k0
      refine Par.val_k fun K hK => ?_
      unfold Par.val
      (have n7 := hC.notyet 7 6 hL (by kernel_rfl); have n10 := hC.notyet 10 6 hL (by kernel_rfl); have hx := hR.a n7 n10; go_simp; exact hK _ _ ⟨Rg.R3.zero (by decide) n7 n10 (hx.trans (Ext.alloc _ _)) ⟨hx.trans (Ext.alloc _ _), _, rfl, heap_alloc_new _ _⟩, trivial⟩)
    refine ⟨fun L ρ w' hR hC hL hd hk => ?_, ?_⟩
    · obtain ⟨k0, k1, -⟩ := hk
      have e0 : ρ (.tmp 14) = Value.slice ao s.opn.length cap := k0
      have e1 : (fun _ => True) (ρ (.tmp 16))  := k1
      clear k0 k1
      refine Par.val_k fun K hK => ?_
      unfold Par.val
      (have n10 := hC.notyet 10 7 hL (by kernel_rfl); have h6 := hC.before 6 (i := 7) rfl hd (by kernel_rfl); obtain ⟨hx, g, hg1, hg2⟩ := hR.s h6 hL; have e1' : ρ (.tmp 16) = .slice (some ⟨g, 0, none⟩) 1 1 := hg1; rw [← HVO.out] at e0; obtain ⟨v', w2, r1, r2, r3, r4, r5⟩ := run_app_chg B 50 (hx.owns HO1.out) hg2 rfl rfl hpo (by omega) (Nat.le_trans HB1.out hx.size); rw [← e0, ← e1'] at r1; exact Par.val_append r1 (hK _ _ ⟨Rg.R3.one (by decide) n10 ⟨r2, (Ext.fr hx).trans r3, fun q hq => (r5 q hq).imp id (fun h => Nat.le_trans hx.size h)⟩, trivial⟩))
    refine ⟨fun L ρ w' hR hC hL hd hk => ?_, ?_⟩
    · obtain ⟨k0, -⟩ := hk
      have e0 : ρ (.tmp 10) = pv p := k0
      clear k0
      refine Par.val_k fun K hK => ?_
      unfold Par.val
      (go_simp; exact hK _ _ ⟨hR.other (by decide), rfl⟩)
    refine ⟨fun L ρ w' hR hC hL hd hk => ?_, ?_⟩
    · obtain ⟨k0, -⟩ := hk
      have e0 : ρ (.tmp 18) = pv p := k0
      clear k0
      refine Par.val_k fun K hK => ?_
      unfold Par.val
      (go_simp; exact hK _ _ ⟨hR.other (by decide), rfl⟩)
    refine ⟨fun L ρ w' hR hC hL hd hk => ?_, ?_⟩
    · obtain ⟨k0, k1, -⟩ := hk
      have e0 : ρ (.tmp 19) = Value.pointer (some ⟨p, 3, none⟩) := k0
      have e1 : (fun _ => True) (ρ (.tmp 17))  := k1
      clear k0 k1
      refine Par.val_k fun K hK => ?_
      unfold Par.val
      (have h7 := hC.before 7 (i := 10) rfl hd (by kernel_rfl); obtain ⟨o1, o2, o3⟩ := hR.b h7 hL; have hpn : p ∉ oB x.vo := row_no HO1.out HP1.out (by intro cs e; simp at e); have hp2 := (o2.block p (Array.getElem?_eq_some_iff.1 HP1.out).1 hpn).trans HP1.out; obtain ⟨⟨-, -, -, cc, -, -⟩, ff⟩ := lk6 hp2; obtain ⟨a3, c3, e3⟩ := row_shape o1; have e4 : ρ (.tmp 17) = .slice a3 (s.opn.length + 1) c3 := e3; have o1' : w'.ownsRow B 61 3 (.slice a3 (s.opn.length + 1) c3) (s.opn.length + 1) (s.opn.flatMap x.cc ++ [vN c.frm, vN c.to, pf]) := (by rw [← e3]; exact o1); have o3' : ∀ q ∈ oB (.slice a3 (s.opn.length + 1) c3), q ∈ oB x.vo ∨ W1.heap.size ≤ q := (by rw [← e3]; exact o3); have hfin := chg_stored (c := c) hp2 o1' o2 o3'; go_simp; exact hK _ _ ⟨Rg.R3.two (by decide) h7 hfin, trivial⟩)
    trivial
  intro a' w' inv hR
  have q10 : a'.tmps.getD 10 undef = pv p := inv.done 0 _ 10 rfl rfl rfl
  have q11 : a'.tmps.getD 11 undef = pv p := inv.done 1 _ 11 rfl rfl rfl
  have q12 : a'.tmps.getD 12 undef = pv p := inv.done 2 _ 12 rfl rfl rfl
  have q13 : a'.tmps.getD 13 undef = Value.pointer (some ⟨p, 3, none⟩) := inv.done 3 _ 13 rfl rfl rfl
  have q14 : a'.tmps.getD 14 undef = Value.slice ao s.opn.length cap := inv.done 4 _ 14 rfl rfl rfl
  have q15 : a'.tmps.getD 15 undef = Value.agg #[vN c.frm, vN c.to, pf] := inv.done 5 _ 15 rfl rfl rfl
  have q16 : (fun _ => True) (a'.tmps.getD 16 undef)  := inv.done 6 _ 16 rfl rfl rfl
  have q17 : (fun _ => True) (a'.tmps.getD 17 undef)  := inv.done 7 _ 17 rfl rfl rfl
  have q18 : a'.tmps.getD 18 undef = pv p := inv.done 8 _ 18 rfl rfl rfl
  have q19 : a'.tmps.getD 19 undef = Value.pointer (some ⟨p, 3, none⟩) := inv.done 9 _ 19 rfl rfl rfl
  clear inv
  simp only [List.filterMap_cons, List.filterMap_nil, Par.putAll, Act.put, List.setIfInBounds_toArray, List.set_cons_succ, List.set_cons_zero, q10, q11, q12, q13, q14, q15, q18, q19]
  clear q10 q11 q12 q13 q14 q15 q18 q19
  generalize a'.tmps.getD 16 undef = u16 at *
  generalize a'.tmps.getD 17 undef = u17 at *
  try clear a'
  obtain ⟨vo', d1, d2, d3, d4⟩ := hR.z rfl
  clear hR
  have HF2 : Hid (Fr (p :: x.md :: oB x.vo) w w') := hid ((F1.out.mono (by intro q hq; obtain rfl : q = x.md := (by simpa using hq); simp)).trans (d3.mono (by
    intro q hq
    rcases List.mem_cons.1 hq with rfl | hq
    · simp
    · simp [hq])))
  have hnm : x.md ∉ (p :: oB x.vo) := by
    simp only [List.mem_cons, not_or]
    refine ⟨Ne.symm H.out.p_md, fun hq => ?_⟩
    obtain ⟨es, ck, hb⟩ := H.out.dr.block
    exact row_no H.out.op hb (by intro cs e; cases e) hq
  have HD : Hid (Dk B w' p { x with vo := vo' } (altP c s)) := hid (H.out.altered c vo' HG.out d1 (HM.out.fr d3 hnm) (by rw [DX.cc, HPF.out]; exact d2) HF2.out)
  have HB4 : Hid (∀ q ∈ DX.blk { x with vo := vo' } p, q ∈ x.blk p ∨ w.heap.size ≤ q) := hid (by
    intro q hq
    simp only [DX.blk, List.mem_cons, List.mem_append] at hq ⊢
    rcases hq with h | h | h | (h | h) | h
    · exact .inl (.inl h)
    · exact .inl (.inr (.inl h))
    · exact .inl (.inr (.inr (.inl h)))
    · rcases d4 q h with h2 | h2
      · exact .inl (.inr (.inr (.inr (.inl (.inl h2)))))
      · exact .inr (by omega)
    · exact .inl (.inr (.inr (.inr (.inl (.inr h)))))
    · exact .inl (.inr (.inr (.inr (.inr h)))))
  clear d1 d2 d3 d4 hnm
  go_wp2
  go_returns
  refine ⟨⟨_, rfl⟩, _, HD.out, HF2.out.mono ?_, HF2.out.below ?_ ?_, HB4.out⟩
  · intro q hq
    simp only [DX.blk, List.mem_cons, List.mem_append] at hq ⊢
    rcases hq with h | h | h
    · exact .inl h
    · exact .inr (.inl h)
    · exact .inr (.inr (.inr (.inl (.inl h))))
  · intro q hq
    simp only [List.mem_cons] at hq
    rcases hq with rfl | rfl | h
    · exact H.out.lo.1
    · exact H.out.lo.2.1
    · exact row_lo H.out.op q h
  · exact HB0.out
end Go.Proofs.YtekjflndblgegaaDoor
