/- maps.Clone, DirSync.
alter.
do.
Create: what is against it.
Create.
Ranges over maps of pointers; Held.
A file's bytes turn; Append.
Append.
Append: what it does.
Append, whole.
Sync, Delete, Rename.
Cut, DirSync, Fuse. -/
import Derived.Test.YtijpokajhjhllaaGreatDoorDskB
import Derived.Test.YtijpokajhjhllaaGreatDoorRg
import Derived.Maps.AppendAt
import Derived.Maps.RangeWalk
import Derived.Test.YtijpokajhjhllaaGreatDoorOpen
import Derived.Shelf.SlMaps.Clone
set_option linter.unusedSimpArgs false
set_option linter.unusedVariables false
namespace Go.Proofs.YtijpokajhjhllaaGreatDoor
open Go Go.RowKit Go.Tum Go.ChangeMaps
open Go.ParB (upd Lof)
open Go.ParE (putS slotsR slots Closed)

theorem infoChg : (Tryz.prog.info? 93).map (fun i => (i.zero, i.size, i.bytes)) = some (some (.agg #[.string ⟨#[]⟩, .string ⟨#[]⟩, .pointer none]), 3, 40) := by kernel_rfl
theorem oB_own {v : Value} {g : Nat} (h : v.ownBlock = some g) : oB v = [g] := by unfold oB; rw [h]
theorem below_grown {w w' : World} {b e s n : Nat} {v : Value} {xs : List Value} (h : w.ownsRow b e s v n xs) (hb : b ≤ w.heap.size) (k : w.grownBy w' v.ownBlock) : Below b w w' := by
  refine (Below.refl b w).grown k hb fun j ej => ?_
  rcases h.2 with ⟨rfl, _⟩ | ⟨g, cap, cur, rfl, hb, _, _⟩
  · simp [Value.ownBlock] at ej
  · obtain rfl : g = j := by simpa [Value.ownBlock] using ej
    exact hb
theorem fr_grown {w w' : World} {b : Nat} {v : Value} (k : w.grownBy w' v.ownBlock) (e : Below b w w') : Fr (oB v) w w' :=
  ⟨e.os, e.tape, e.output, e.size, fun j hj hn => k.block j hj fun h => hn (by rw [oB_own h.symm]; simp)⟩
theorem oB_at {v v' : Value} {n : Nat} (h : v'.ownBlock = v.ownBlock ∨ v'.ownBlock = some n) : ∀ q ∈ oB v', q ∈ oB v ∨ n ≤ q := by
  intro q hq
  rcases h with h | h
  · left; unfold oB at hq ⊢; rw [h] at hq; exact hq
  · right; rw [oB_own h] at hq; simp at hq; omega
theorem row_shape {w : World} {b e s n : Nat} {v : Value} {xs : List Value} (h : w.ownsRow b e s v n xs) : ∃ ao cap, v = .slice ao n cap := by
  rcases h.2 with ⟨a, b⟩ | ⟨g, cap, cur, hv, _⟩
  · subst b; exact ⟨_, _, a⟩
  · exact ⟨_, _, hv⟩
theorem run_app_chg (base ty : Nat) {w : World} {v : Value} {n : Nat} {xs : List Value} (hown : w.ownsRow base 93 3 v n xs) {g : Nat} {a b f : Value} {t2 : TypeId} (hg : w.heap[g]? = some (.cells #[a, b, f] t2 (0, 0)))
    (h1 : a.oneCell' = true) (h2 : b.oneCell' = true) (h3 : f.oneCell' = true) (hn : n ≤ 1000000) (hbase : base ≤ w.heap.size) :
    ∃ v' w', (Builtin.append_ #[69, 69] ty #[v, .slice (some ⟨g, 0, none⟩) 1 1]).run Tryz.prog w = .ok v' w' ∧ w'.ownsRow base 93 3 v' (n + 1) (xs ++ [a, b, f]) ∧ Fr (oB v) w w' ∧ Below base w w' ∧ ∀ q ∈ oB v', q ∈ oB v ∨ w.heap.size ≤ q := by
  obtain ⟨i, hi1, hz, hs, hby⟩ := info_parts infoChg
  obtain ⟨v', w', r1, r2, r3, -, r5⟩ := run_append_own_at (P := Tryz.prog) w base 69 ty 93 i _ 3 40 Tryz.underlying69 hi1 hz hs hby rfl (by decide) v n xs hown ⟨g, 0, none⟩ 1 1 [a, b, f] rfl (by
    intro j u hu
    have e1 : (⟨g, 0, none⟩ : Addr).add j = ⟨g, j, none⟩ := by unfold Addr.add; split <;> simp_all
    rw [e1, cell_of_row _ _ _ _ _ _ hg]
    simpa using hu) (by
    intro u hu
    simp at hu
    rcases hu with rfl | rfl | rfl <;> assumption) (by simp [maxLen]; omega) (by omega) hbase
  have hb := below_grown hown hbase r3
  exact ⟨v', w', r1, r2, fr_grown r3 hb, hb, oB_at r5⟩
theorem ptr_one (b : Option Nat) : (ptr b).oneCell' = true := by cases b <;> rfl

section
variable {B : Nat} {w w' : World} {p : Nat} {x : DX} {s : PS}
theorem Dk.p_md (h : Dk B w p x s) : p ≠ x.md := by
  rintro e
  obtain ⟨es, ck, hb⟩ := h.dr.block
  rw [← e, h.hd] at hb; cases hb
theorem Dk.p_ms (h : Dk B w p x s) : p ≠ x.ms := by
  rintro e
  obtain ⟨es, ck, hb⟩ := h.sr.block
  rw [← e, h.hd] at hb; cases hb
theorem Dk.p_bk (h : Dk B w p x s) {i : Nat} (hi : i < s.files.length) : p ≠ x.bk i := by
  rintro e
  have := (h.fi i hi).1
  rw [← e, h.hd] at this; simp at this
theorem Dk.md_bk (h : Dk B w p x s) {i : Nat} (hi : i < s.files.length) : x.md ≠ x.bk i := by
  rintro e
  obtain ⟨es, ck, hb⟩ := h.dr.block
  have := (h.fi i hi).1
  rw [← e, hb] at this; cases this
theorem Dk.ms_bk (h : Dk B w p x s) {i : Nat} (hi : i < s.files.length) : x.ms ≠ x.bk i := by
  rintro e
  obtain ⟨es, ck, hb⟩ := h.sr.block
  have := (h.fi i hi).1
  rw [← e, hb] at this; cases this
theorem row_no {w : World} {b e s2 n : Nat} {v : Value} {xs : List Value} {q : Nat} {o : Obj} (h : w.ownsRow b e s2 v n xs) (hq : w.heap[q]? = some o) (ho : ∀ cs, o ≠ .cells cs e (0, 0)) : q ∉ oB v := by
  intro hm
  rcases h.2 with ⟨hv, -⟩ | ⟨g, cap, cur, hv, hb, hgg, rest⟩
  · rw [hv] at hm; simp [oB, Value.ownBlock] at hm
  · rw [hv] at hm
    simp [oB, Value.ownBlock] at hm
    subst hm
    rw [hq] at hgg; cases hgg; exact ho _ rfl
/-- Two rows of elements of unlike types. -/
theorem row_far {w : World} {b b2 e e2 s2 s3 n n2 : Nat} {v v2 : Value} {xs ys : List Value} (h : w.ownsRow b e s2 v n xs) (h2 : w.ownsRow b2 e2 s3 v2 n2 ys) (hne : e ≠ e2) : ∀ q ∈ oB v, q ∉ oB v2 := by
  intro q hq
  rcases h.2 with ⟨hv, -⟩ | ⟨g, cap, cur, hv, hb, hgg, rest⟩
  · rw [hv] at hq; simp [oB, Value.ownBlock] at hq
  · rw [hv] at hq
    simp [oB, Value.ownBlock] at hq
    subst hq
    exact row_no h2 hgg (by intro cs e3; cases e3; exact hne rfl)
theorem Dk.bk_op (h : Dk B w p x s) {i : Nat} (hi : i < s.files.length) : x.bk i ∉ oB x.vo := row_no h.op (h.fi i hi).1 (by intro cs e; simp at e)
/-- The directory's map, and the row of changes, may have turned: a change more. -/
theorem Dk.altered (h : Dk B w p x s) (c : Chg) (vo' : Value) (hg : Gd (altP c s)) (hd : w'.heap[p]? = some (diskO { x with vo := vo' } (altP c s)))
    (hm : PM w' x.md (appC (x.hb s.dir) ⟨c.frm, c.to, c.file.map x.bk⟩)) (ho : w'.ownsRow B 93 3 vo' (s.opn.length + 1) (s.opn.flatMap x.cc ++ x.cc c)) (f : Fr (p :: x.md :: oB x.vo) w w') : Dk B w' p { x with vo := vo' } (altP c s) := by
  refine ⟨hd, ?_, ?_, ?_, h.fn, fun i hi => ?_, h.fd, h.od, h.ne, h.lo, hg⟩
  · have : (altP c s).dir = appC s.dir c := by
      unfold PS.dir altP dirAt
      simp only [List.foldl_append, List.foldl_cons, List.foldl_nil]
    rw [this]
    show PM w' x.md (x.hb (appC s.dir c))
    rw [hb_app]; exact hm
  · refine h.sr.fr f ?_
    simp only [List.mem_cons, not_or]
    refine ⟨Ne.symm h.p_ms, Ne.symm h.ne, fun hq => ?_⟩
    obtain ⟨es, ck, hb⟩ := h.sr.block
    exact row_no h.op hb (by intro cs e; cases e) hq
  · show w'.ownsRow B 93 3 vo' (s.opn ++ [c]).length ((s.opn ++ [c]).flatMap x.cc)
    rw [List.length_append, List.flatMap_append]
    simpa using ho
  · obtain ⟨a, b⟩ := h.fi i hi
    refine ⟨(f.block _ (Array.getElem?_eq_some_iff.1 a).1 ?_).trans a, ownsRow_fr b f fun q hq => ?_⟩
    · simp only [List.mem_cons, not_or]
      exact ⟨Ne.symm (h.p_bk hi), Ne.symm (h.md_bk hi), h.bk_op hi⟩
    · simp only [List.mem_cons, not_or]
      refine ⟨?_, ?_, row_far b h.op (by decide) q hq⟩
      · rintro rfl; exact row_no b h.hd (by intro cs e; simp at e) hq
      · rintro rfl
        obtain ⟨es, ck, hb⟩ := h.dr.block
        exact row_no b hb (by intro cs e; cases e) hq
end
theorem row_lo {w : World} {b e s2 n : Nat} {v : Value} {xs : List Value} (h : w.ownsRow b e s2 v n xs) : ∀ q ∈ oB v, b ≤ q := by
  intro q hm
  rcases h.2 with ⟨hv, -⟩ | ⟨g, cap, cur, hv, hb, hgg, rest⟩
  · rw [hv] at hm; simp [oB, Value.ownBlock] at hm
  · rw [hv] at hm
    simp [oB, Value.ownBlock] at hm
    subst hm; exact hb
theorem chg_stored {B p n : Nat} {W1 w : World} {x : DX} {s : PS} {c : Chg} {v : Value} {xs : List Value} (hp : w.heap[p]? = some (diskO x s)) (h1 : w.ownsRow B 93 3 v n xs) (h2 : Fr (oB x.vo) W1 w) (h3 : ∀ q ∈ oB v, q ∈ oB x.vo ∨ W1.heap.size ≤ q) :
    ∃ vo', (w.setCell ⟨p, 3, none⟩ v).heap[p]? = some (diskO { x with vo := vo' } (altP c s)) ∧ (w.setCell ⟨p, 3, none⟩ v).ownsRow B 93 3 vo' n xs ∧ Fr (p :: oB x.vo) W1 (w.setCell ⟨p, 3, none⟩ v) ∧ ∀ q ∈ oB vo', q ∈ oB x.vo ∨ W1.heap.size ≤ q := by
  refine ⟨v, block_set6 hp 3 v, ownsRow_fr (S := [p]) h1 (fr_setCell _ _ _ (by simp)) (fun q hq hq2 => ?_), (h2.mono (by intro q hq; simp [hq])).trans (fr_setCell _ _ _ (by simp)), h3⟩
  obtain rfl : q = p := by simpa using hq2
  exact row_no h1 hp (by intro cs e; simp at e) hq
set_option maxRecDepth 100000 in
set_option maxHeartbeats 2000000 in
theorem dalt_any {B : Nat} {w : World} {p : Nat} {x : DX} {s : PS} (c : Chg) (h : Dk B w p x s) (h1 : c.frm.length ≤ maxLen) (h2 : c.to.length ≤ maxLen) (hg : Gd (altP c s)) (hB : B ≤ w.heap.size) (hl : s.opn.length ≤ 100000) :
    Calls Tryz.prog 59 #[pv p, .agg #[vN c.frm, vN c.to, ptr (c.file.map x.bk)]] w fun e w' => (∃ u, e = .returned u) ∧ Stp B w p x (altP c s) w' := by
  have H := hid h
  have HG := hid hg
  obtain ⟨⟨-, c1, -, c3, -, -⟩, -⟩ := lk6 h.hd
  obtain ⟨ao, cap, hvo⟩ := row_shape h.op
  have hnb := heap_alloc_new w (.cells #[vN c.frm, vN c.to, ptr (c.file.map x.bk)] 93 (0, 0))
  have hE := Ext.alloc w (.cells #[vN c.frm, vN c.to, ptr (c.file.map x.bk)] 93 (0, 0))
  obtain ⟨pf, hpf⟩ : ∃ v, ptr (c.file.map x.bk) = v := ⟨_, rfl⟩
  have hpo : pf.oneCell' = true := by rw [← hpf]; exact ptr_one _
  have HPF := hid hpf
  rw [hpf] at hnb hE ⊢
  clear h hg
  go_enter Tryz.func59, Tryz.ntmps59
  go_wp2_with fail
  obtain ⟨W, hW⟩ : ∃ W, w.alloc (.cells #[vN c.frm, vN c.to, pf] 93 (0, 0)) = W := ⟨_, rfl⟩
  rw [hW] at hnb hE ⊢
  have HNB := hid hnb
  have HE := hid hE
  have C1 := hid (hE.cell c1)
  clear hW hnb hE c1
  refine ParE.wp_region_e (l := [_, _, _, _, _, _]) rfl (Rg.R1 W 5 (fun w' => PM w' x.md (appC (x.hb s.dir) ⟨c.frm, c.to, c.file.map x.bk⟩) ∧ Fr [x.md] W w')) (ParC.VC [ParC.EQ (pv p), ParC.EQ (pv p), ParC.EQ (Value.pointer (some ⟨p, 1, none⟩)), ParC.EQ (Value.map (some x.md)), ParC.EQ (Value.agg #[vN c.frm, vN c.to, pf]), (fun _ => True)]) (by kernel_rfl) (by kernel_rfl) (Rg.R1.start) ?_ ?_
  · refine ⟨fun L ρ w' hR hC hL hd hk => ?_, ?_⟩
    · exact Par.val_of_run rfl ⟨hR.other (by decide), hk.1⟩
    refine ⟨fun L ρ w' hR hC hL hd hk => ?_, ?_⟩
    · obtain ⟨k0, -⟩ := hk
      have e0 : ρ (.tmp 4) = pv p := k0
      clear k0
      refine Par.val_k fun K hK => ?_
      unfold Par.val
      (go_simp; exact hK _ _ ⟨hR.other (by decide), rfl⟩)
    refine ⟨fun L ρ w' hR hC hL hd hk => ?_, ?_⟩
    · obtain ⟨k0, -⟩ := hk
      have e0 : ρ (.tmp 5) = pv p := k0
      clear k0
      refine Par.val_k fun K hK => ?_
      unfold Par.val
      (go_simp; exact hK _ _ ⟨hR.other (by decide), rfl⟩)
    refine ⟨fun L ρ w' hR hC hL hd hk => ?_, ?_⟩
    · obtain ⟨k0, -⟩ := hk
      have e0 : ρ (.tmp 6) = Value.pointer (some ⟨p, 1, none⟩) := k0
      clear k0
      refine Par.val_k fun K hK => ?_
      unfold Par.val
      (have hx := hR.a (hC.notyet 5 3 hL (by kernel_rfl)); have cc := hx.cell C1.out; go_simp; exact hK _ _ ⟨hR.other (by decide), rfl⟩)
    refine ⟨fun L ρ w' hR hC hL hd hk => ?_, ?_⟩
    · obtain ⟨k0, -⟩ := hk
      have e0 : ρ (.tmp 3) = Value.pointer (some ⟨w.heap.size, 0, none⟩) := k0
      clear k0
      refine Par.val_k fun K hK => ?_
      unfold Par.val
      (have hx := hR.a (hC.notyet 5 4 hL (by kernel_rfl)); obtain ⟨q0, q1, q2, -⟩ := lk3 (hx.obj HNB.out); go_simp; exact hK _ _ ⟨hR.other (by decide), rfl⟩)
    refine ⟨fun L ρ w' hR hC hL hd hk => ?_, ?_⟩
    · obtain ⟨k0, k1, k2, -⟩ := hk
      have e0 := k0
      have e1 : ρ (.tmp 7) = Value.map (some x.md) := k1
      have e2 : ρ (.tmp 8) = Value.agg #[vN c.frm, vN c.to, pf] := k2
      clear k0 k1 k2
      refine Par.val_k fun K hK => ?_
      unfold Par.val
      (have hx := hR.a hL; have hD := H.out.ext (HE.out.trans hx); rw [← HPF.out] at e2; refine Par.val_call Tryz.func50 (by kernel_rfl) rfl e0 ?_; simp only [List.map_toArray, List.map_cons, List.map_nil, e1, e2]; refine (dapp_any w' x.md (x.hb s.dir) ⟨c.frm, c.to, c.file.map x.bk⟩ hD.dr (hb_sorted hD.gd.dirs) (by rw [hb_len]; have := hD.gd.dl; omega) h1 h2).mono ?_; rintro e w2 ⟨⟨u, rfl⟩, q1, q2⟩; exact ⟨_, rfl, hK _ _ ⟨Rg.R1.last ⟨q1, (Ext.fr hx).trans q2⟩, trivial⟩⟩)
    trivial
  intro a' w' inv hR
  have q4 : a'.tmps.getD 4 undef = pv p := inv.done 0 _ 4 rfl rfl rfl
  have q5 : a'.tmps.getD 5 undef = pv p := inv.done 1 _ 5 rfl rfl rfl
  have q6 : a'.tmps.getD 6 undef = Value.pointer (some ⟨p, 1, none⟩) := inv.done 2 _ 6 rfl rfl rfl
  have q7 : a'.tmps.getD 7 undef = Value.map (some x.md) := inv.done 3 _ 7 rfl rfl rfl
  have q8 : a'.tmps.getD 8 undef = Value.agg #[vN c.frm, vN c.to, pf] := inv.done 4 _ 8 rfl rfl rfl
  have q9 : (fun _ => True) (a'.tmps.getD 9 undef)  := inv.done 5 _ 9 rfl rfl rfl
  clear inv
  simp only [List.filterMap_cons, List.filterMap_nil, Par.putAll, Act.put, List.setIfInBounds_toArray, List.set_cons_succ, List.set_cons_zero, q4, q5, q6, q7, q8]
  clear q4 q5 q6 q7 q8
  generalize a'.tmps.getD 9 undef = u9 at *
  try clear a'
  obtain ⟨q1, q2⟩ := hR.z rfl
  clear hR
  obtain ⟨W1, hW1⟩ : ∃ W1, W1 = w' := ⟨_, rfl⟩
  subst hW1
  have hmd : x.md < w.heap.size := by
    obtain ⟨es, ck, hb⟩ := H.out.dr.block
    exact (Array.getElem?_eq_some_iff.1 hb).1
  have hpl : p < w.heap.size := (Array.getElem?_eq_some_iff.1 H.out.hd).1
  have F1 : Hid (Fr [x.md] w W1) := hid ((Ext.fr HE.out).trans q2)
  have HM := hid q1
  have HNB1 : Hid (W1.heap[w.heap.size]? = some (.cells #[vN c.frm, vN c.to, pf] 93 (0, 0))) := hid ((q2.block _ (Array.getElem?_eq_some_iff.1 HNB.out).1 (by simp; omega)).trans HNB.out)
  have HP1 : Hid (W1.heap[p]? = some (diskO x s)) := hid ((F1.out.block p hpl (by simpa using H.out.p_md)).trans H.out.hd)
  have HO1 : Hid (W1.ownsRow B 93 3 x.vo s.opn.length (s.opn.flatMap x.cc)) := hid (ownsRow_fr H.out.op F1.out (fun q hq hq2 => by
    obtain rfl : q = x.md := by simpa using hq2
    obtain ⟨es, ck, hb⟩ := H.out.dr.block
    exact row_no H.out.op hb (by intro cs e; cases e) hq))
  have C3 : Hid (W1.cell? ⟨p, 3, none⟩ = some (.slice ao s.opn.length cap)) := hid (by rw [← hvo]; exact (lk6 HP1.out).1.2.2.2.1)
  have HB1 : Hid (B ≤ W1.heap.size) := hid (Nat.le_trans hB F1.out.size)
  have HVO := hid hvo
  have hEsz := F1.out.size
  have HB0 := hid hB
  clear q1 q2 hpf hvo hB
  go_wp2_with fail
  refine ParE.wp_region_e (l := [_, _, _, _, _, _, _, _, _, _, _]) rfl (Rg.R3 W1 6 16 7 17 10 (fun v w' => Ext W1 w' ∧ ∃ g, v = .slice (some ⟨g, 0, none⟩) 1 1 ∧ w'.heap[g]? = some (.cells #[vN c.frm, vN c.to, pf] 93 (0, 0))) (fun v w' => w'.ownsRow B 93 3 v (s.opn.length + 1) (s.opn.flatMap x.cc ++ [vN c.frm, vN c.to, pf]) ∧ Fr (oB x.vo) W1 w' ∧ ∀ q ∈ oB v, q ∈ oB x.vo ∨ W1.heap.size ≤ q) (fun w' => ∃ vo', w'.heap[p]? = some (diskO { x with vo := vo' } (altP c s)) ∧ w'.ownsRow B 93 3 vo' (s.opn.length + 1) (s.opn.flatMap x.cc ++ [vN c.frm, vN c.to, pf]) ∧ Fr (p :: oB x.vo) W1 w' ∧ ∀ q ∈ oB vo', q ∈ oB x.vo ∨ W1.heap.size ≤ q)) (ParC.VC [ParC.EQ (pv p), ParC.EQ (pv p), ParC.EQ (pv p), ParC.EQ (Value.pointer (some ⟨p, 3, none⟩)), ParC.EQ (Value.slice ao s.opn.length cap), ParC.EQ (Value.agg #[vN c.frm, vN c.to, pf]), (fun _ => True), (fun _ => True), ParC.EQ (pv p), ParC.EQ (Value.pointer (some ⟨p, 3, none⟩)), fun _ => True]) (by kernel_rfl) (by kernel_rfl) (Rg.R3.start) ?_ ?_
  · refine ⟨fun L ρ w' hR hC hL hd hk => ?_, ?_⟩
    · exact Par.val_of_run rfl ⟨hR.other (by decide), hk.1⟩
    refine ⟨fun L ρ w' hR hC hL hd hk => ?_, ?_⟩
    · exact Par.val_of_run rfl ⟨hR.other (by decide), hk.1⟩
    refine ⟨fun L ρ w' hR hC hL hd hk => ?_, ?_⟩
    · obtain ⟨k0, -⟩ := hk
      have e0 : ρ (.tmp 11) = pv p := k0
      clear k0
      refine Par.val_k fun K hK => ?_
      unfold Par.val
      (go_simp; exact hK _ _ ⟨hR.other (by decide), rfl⟩)
    refine ⟨fun L ρ w' hR hC hL hd hk => ?_, ?_⟩
    · obtain ⟨k0, -⟩ := hk
      have e0 : ρ (.tmp 12) = pv p := k0
      clear k0
      refine Par.val_k fun K hK => ?_
      unfold Par.val
      (go_simp; exact hK _ _ ⟨hR.other (by decide), rfl⟩)
    refine ⟨fun L ρ w' hR hC hL hd hk => ?_, ?_⟩
    · obtain ⟨k0, -⟩ := hk
      have e0 : ρ (.tmp 13) = Value.pointer (some ⟨p, 3, none⟩) := k0
      clear k0
      refine Par.val_k fun K hK => ?_
      unfold Par.val
      (have hx := hR.a (hC.notyet 7 4 hL (by kernel_rfl)) (hC.notyet 10 4 hL (by kernel_rfl)); have cc := hx.cell C3.out; go_simp; exact hK _ _ ⟨hR.other (by decide), rfl⟩)
    refine ⟨fun L ρ w' hR hC hL hd hk => ?_, ?_⟩
    · obtain ⟨k0, -⟩ := hk
      have e0 : ρ (.tmp 3) = Value.pointer (some ⟨w.heap.size, 0, none⟩) := k0
      clear k0
      refine Par.val_k fun K hK => ?_
      unfold Par.val
      (have hx := hR.a (hC.notyet 7 5 hL (by kernel_rfl)) (hC.notyet 10 5 hL (by kernel_rfl)); obtain ⟨q0, q1, q2, -⟩ := lk3 (hx.obj HNB1.out); go_simp; exact hK _ _ ⟨hR.other (by decide), rfl⟩)
    refine ⟨fun L ρ w' hR hC hL hd hk => ?_, ?_⟩
    · obtain ⟨k0, -⟩ := hk
      have e0 : ρ (.tmp 15) = Value.agg #[vN c.frm, vN c.to, pf] := k0
      clear k0
      refine Par.val_k fun K hK => ?_
      unfold Par.val
      (have n7 := hC.notyet 7 6 hL (by kernel_rfl); have n10 := hC.notyet 10 6 hL (by kernel_rfl); have hx := hR.a n7 n10; go_simp; exact hK _ _ ⟨Rg.R3.zero (by decide) n7 n10 (hx.trans (Ext.alloc _ _)) ⟨hx.trans (Ext.alloc _ _), _, rfl, heap_alloc_new _ _⟩, trivial⟩)
    refine ⟨fun L ρ w' hR hC hL hd hk => ?_, ?_⟩
    · obtain ⟨k0, k1, -⟩ := hk
      have e0 : ρ (.tmp 14) = Value.slice ao s.opn.length cap := k0
      have e1 : (fun _ => True) (ρ (.tmp 16))  := k1
      clear k0 k1
      refine Par.val_k fun K hK => ?_
      unfold Par.val
      (have n10 := hC.notyet 10 7 hL (by kernel_rfl); have h6 := hC.before 6 (i := 7) rfl hd (by kernel_rfl); obtain ⟨hx, g, hg1, hg2⟩ := hR.s h6 hL; have e1' : ρ (.tmp 16) = .slice (some ⟨g, 0, none⟩) 1 1 := hg1; rw [← HVO.out] at e0; obtain ⟨v', w2, r1, r2, r3, r4, r5⟩ := run_app_chg B 69 (hx.owns HO1.out) hg2 rfl rfl hpo (by omega) (Nat.le_trans HB1.out hx.size); rw [← e0, ← e1'] at r1; exact Par.val_append r1 (hK _ _ ⟨Rg.R3.one (by decide) n10 ⟨r2, (Ext.fr hx).trans r3, fun q hq => (r5 q hq).imp id (fun h => Nat.le_trans hx.size h)⟩, trivial⟩))
    refine ⟨fun L ρ w' hR hC hL hd hk => ?_, ?_⟩
    · obtain ⟨k0, -⟩ := hk
      have e0 : ρ (.tmp 10) = pv p := k0
      clear k0
      refine Par.val_k fun K hK => ?_
      unfold Par.val
      (go_simp; exact hK _ _ ⟨hR.other (by decide), rfl⟩)
    refine ⟨fun L ρ w' hR hC hL hd hk => ?_, ?_⟩
    · obtain ⟨k0, -⟩ := hk
      have e0 : ρ (.tmp 18) = pv p := k0
      clear k0
      refine Par.val_k fun K hK => ?_
      unfold Par.val
      (go_simp; exact hK _ _ ⟨hR.other (by decide), rfl⟩)
    refine ⟨fun L ρ w' hR hC hL hd hk => ?_, ?_⟩
    · obtain ⟨k0, k1, -⟩ := hk
      have e0 : ρ (.tmp 19) = Value.pointer (some ⟨p, 3, none⟩) := k0
      have e1 : (fun _ => True) (ρ (.tmp 17))  := k1
      clear k0 k1
      refine Par.val_k fun K hK => ?_
      unfold Par.val
      (have h7 := hC.before 7 (i := 10) rfl hd (by kernel_rfl); obtain ⟨o1, o2, o3⟩ := hR.b h7 hL; have hpn : p ∉ oB x.vo := row_no HO1.out HP1.out (by intro cs e; simp at e); have hp2 := (o2.block p (Array.getElem?_eq_some_iff.1 HP1.out).1 hpn).trans HP1.out; obtain ⟨⟨-, -, -, cc, -, -⟩, ff⟩ := lk6 hp2; obtain ⟨a3, c3, e3⟩ := row_shape o1; have e4 : ρ (.tmp 17) = .slice a3 (s.opn.length + 1) c3 := e3; have o1' : w'.ownsRow B 93 3 (.slice a3 (s.opn.length + 1) c3) (s.opn.length + 1) (s.opn.flatMap x.cc ++ [vN c.frm, vN c.to, pf]) := (by rw [← e3]; exact o1); have o3' : ∀ q ∈ oB (.slice a3 (s.opn.length + 1) c3), q ∈ oB x.vo ∨ W1.heap.size ≤ q := (by rw [← e3]; exact o3); have hfin := chg_stored (c := c) hp2 o1' o2 o3'; go_simp; exact hK _ _ ⟨Rg.R3.two (by decide) h7 hfin, trivial⟩)
    trivial
  intro a' w' inv hR
  have q10 : a'.tmps.getD 10 undef = pv p := inv.done 0 _ 10 rfl rfl rfl
  have q11 : a'.tmps.getD 11 undef = pv p := inv.done 1 _ 11 rfl rfl rfl
  have q12 : a'.tmps.getD 12 undef = pv p := inv.done 2 _ 12 rfl rfl rfl
  have q13 : a'.tmps.getD 13 undef = Value.pointer (some ⟨p, 3, none⟩) := inv.done 3 _ 13 rfl rfl rfl
  have q14 : a'.tmps.getD 14 undef = Value.slice ao s.opn.length cap := inv.done 4 _ 14 rfl rfl rfl
  have q15 : a'.tmps.getD 15 undef = Value.agg #[vN c.frm, vN c.to, pf] := inv.done 5 _ 15 rfl rfl rfl
  have q16 : (fun _ => True) (a'.tmps.getD 16 undef)  := inv.done 6 _ 16 rfl rfl rfl
  have q17 : (fun _ => True) (a'.tmps.getD 17 undef)  := inv.done 7 _ 17 rfl rfl rfl
  have q18 : a'.tmps.getD 18 undef = pv p := inv.done 8 _ 18 rfl rfl rfl
  have q19 : a'.tmps.getD 19 undef = Value.pointer (some ⟨p, 3, none⟩) := inv.done 9 _ 19 rfl rfl rfl
  clear inv
  simp only [List.filterMap_cons, List.filterMap_nil, Par.putAll, Act.put, List.setIfInBounds_toArray, List.set_cons_succ, List.set_cons_zero, q10, q11, q12, q13, q14, q15, q18, q19]
  clear q10 q11 q12 q13 q14 q15 q18 q19
  generalize a'.tmps.getD 16 undef = u16 at *
  generalize a'.tmps.getD 17 undef = u17 at *
  try clear a'
  obtain ⟨vo', d1, d2, d3, d4⟩ := hR.z rfl
  clear hR
  have HF2 : Hid (Fr (p :: x.md :: oB x.vo) w w') := hid ((F1.out.mono (by intro q hq; obtain rfl : q = x.md := (by simpa using hq); simp)).trans (d3.mono (by
    intro q hq
    rcases List.mem_cons.1 hq with rfl | hq
    · simp
    · simp [hq])))
  have hnm : x.md ∉ (p :: oB x.vo) := by
    simp only [List.mem_cons, not_or]
    refine ⟨Ne.symm H.out.p_md, fun hq => ?_⟩
    obtain ⟨es, ck, hb⟩ := H.out.dr.block
    exact row_no H.out.op hb (by intro cs e; cases e) hq
  have HD : Hid (Dk B w' p { x with vo := vo' } (altP c s)) := hid (H.out.altered c vo' HG.out d1 (HM.out.fr d3 hnm) (by rw [DX.cc, HPF.out]; exact d2) HF2.out)
  have HB4 : Hid (∀ q ∈ DX.blk { x with vo := vo' } p, q ∈ x.blk p ∨ w.heap.size ≤ q) := hid (by
    intro q hq
    simp only [DX.blk, List.mem_cons, List.mem_append] at hq ⊢
    rcases hq with h | h | h | (h | h) | h
    · exact .inl (.inl h)
    · exact .inl (.inr (.inl h))
    · exact .inl (.inr (.inr (.inl h)))
    · rcases d4 q h with h2 | h2
      · exact .inl (.inr (.inr (.inr (.inl (.inl h2)))))
      · exact .inr (by omega)
    · exact .inl (.inr (.inr (.inr (.inl (.inr h)))))
    · exact .inl (.inr (.inr (.inr (.inr h)))))
  clear d1 d2 d3 d4 hnm
  go_wp2
  go_returns
  refine ⟨⟨_, rfl⟩, _, HD.out, HF2.out.mono ?_, HF2.out.below ?_ ?_, HB4.out⟩
  · intro q hq
    simp only [DX.blk, List.mem_cons, List.mem_append] at hq ⊢
    rcases hq with h | h | h
    · exact .inl h
    · exact .inr (.inl h)
    · exact .inr (.inr (.inr (.inl (.inl h))))
  · intro q hq
    simp only [List.mem_cons] at hq
    rcases hq with rfl | rfl | h
    · exact H.out.lo.1
    · exact H.out.lo.2.1
    · exact row_lo H.out.op q h
  · exact HB0.out
end Go.Proofs.YtijpokajhjhllaaGreatDoor

set_option linter.unusedSimpArgs false
set_option linter.unusedVariables false
namespace Go.Proofs.YtijpokajhjhllaaGreatDoor
open Go Go.RowKit Go.Tum Go.ChangeMaps
open Go.ParB (upd Lof)
open Go.ParE (putS slotsR slots Closed)

theorem enter_of {P : Program} {K : Nat} {fn : Func} (hK : P.funcs[K]? = some fn) (hK1 : (fn.name == "runtime.NumGoroutine") = false) (hK2 : fn.body.isNone = false) (args : Array Value) (w : World) :
    Sem.run P (callFunc K args) w = .ok (.enter K args) w := by
  have h1 : ¬ fn.name = "runtime.NumGoroutine" := by simpa using hK1
  have h2 : ¬ fn.body = none := fun h => by rw [h] at hK2; simp at hK2
  simp [callFunc, hK, h1, h2]
abbrev FV (k : Nat) (c : Array Value) : Value := .func (.func k) #[] c
section
variable {B : Nat} {w w' : World} {p : Nat} {x : DX} {s : PS}
/-- Fuse and power may turn. -/
theorem Dk.cellSet (h : Dk B w p x s) (i : Nat) (v : Value) (s' : PS) (hs : s'.room = s.room ∧ s'.files = s.files ∧ s'.sure = s.sure ∧ s'.opn = s.opn) (hfu : -1 ≤ s'.fuse ∧ s'.fuse ≤ 9223372036854775807) (hd : (w.setCell ⟨p, i, none⟩ v).heap[p]? = some (diskO x s')) : Dk B (w.setCell ⟨p, i, none⟩ v) p x s' := by
  obtain ⟨r, f, su, o, fu, dn⟩ := s
  obtain ⟨r', f', su', o', fu', dn'⟩ := s'
  obtain ⟨rfl, rfl, rfl, rfl⟩ := hs
  have F : Fr [p] w (w.setCell ⟨p, i, none⟩ v) := fr_setCell _ _ _ (by simp)
  refine ⟨hd, h.dr.fr F (by simpa using Ne.symm h.p_md), h.sr.fr F (by simpa using Ne.symm h.p_ms), ownsRow_fr h.op F (fun q hq hq2 => ?_), h.fn, fun i hi => ?_, h.fd, h.od, h.ne, h.lo, ⟨h.gd.rm, h.gd.ds, h.gd.nm, h.gd.op, h.gd.fl, h.gd.hd, h.gd.dk, hfu⟩⟩
  · obtain rfl : q = p := by simpa using hq2
    exact row_no h.op h.hd (by intro cs e; simp at e) hq
  · obtain ⟨a, b⟩ := h.fi i hi
    refine ⟨(F.block _ (Array.getElem?_eq_some_iff.1 a).1 (by simpa using Ne.symm (h.p_bk hi))).trans a, ownsRow_fr b F fun q hq hq2 => ?_⟩
    obtain rfl : q = p := by simpa using hq2
    exact row_no b h.hd (by intro cs e; simp at e) hq
def fusS (s : PS) : PS := { s with fuse := if 0 < s.fuse then s.fuse - 1 else s.fuse }
theorem Stp.fr {S : List Nat} (h : Stp B w p x s w') : True := trivial
theorem Stp.after {w1 w2 : World} {s2 : PS} (h : Dk B w p x s) (f : Fr [p] w w1) (b : Below B w w1) (h2 : Stp B w1 p x s2 w2) : Stp B w p x s2 w2 := by
  obtain ⟨x', d, f2, b2, q⟩ := h2
  refine ⟨x', d, (f.mono (by intro q hq; obtain rfl : q = p := (by simpa using hq); simp [DX.blk])).trans f2, b.trans b2, fun y hy => ?_⟩
  rcases q y hy with h1 | h1
  · exact .inl h1
  · exact .inr (Nat.le_trans f.size h1)
end
def DoR (B : Nat) (w : World) (p : Nat) (x : DX) (r : Nat × PS) (e : Ending) (w' : World) : Prop := e = .returned (.int .i64 (r.1 : Nat)) ∧ Stp B w p x r.2 w'
set_option maxHeartbeats 1000000 in
theorem ddo_any {B : Nat} {w : World} {p : Nat} {x : DX} {s : PS} (h : Dk B w p x s) (hB : B ≤ w.heap.size) (k1 k2 : Nat) (c1 c2 : Array Value)
    (e1 : ∀ args w, Sem.run Tryz.prog (callFunc k1 args) w = .ok (.enter k1 args) w) (e2 : ∀ args w, Sem.run Tryz.prog (callFunc k2 args) w = .ok (.enter k2 args) w) (er : Nat) (act : PS → PS)
    (ha : s.down = false → ∀ w', Ext w w' → Calls Tryz.prog k1 c1 w' fun e w'' => e = .returned (.int .i64 (er : Int)) ∧ Ext w' w'')
    (hb : s.down = false → er = 0 → s.fuse ≠ 0 → ∀ w', Dk B w' p x (fusS s) → Fr [p] w w' → Below B w w' → Calls Tryz.prog k2 c2 w' fun e w'' => (∃ u, e = .returned u) ∧ Stp B w' p x (act (fusS s)) w'') :
    Calls Tryz.prog 55 #[pv p, FV k1 c1, FV k2 c2] w fun e w' => DoR B w p x (doP s er act) e w' := by
  have H := hid h
  obtain ⟨⟨-, -, -, -, d4, d5⟩, -⟩ := lk6 h.hd
  cases hdn : s.down with
  | true =>
    rw [hdn] at d5
    have HR : Hid (doP s er act = (7, s)) := hid (by unfold doP; rw [hdn]; rfl)
    have HS := hid (Stp.same h (Ext.refl w) hB)
    clear h hdn ha hb
    go_enter Tryz.func55, Tryz.ntmps55
    go_wp2
    go_ret
    rw [HR.out]
    exact ⟨rfl, HS.out⟩
  | false =>
    rw [hdn] at d5
    have HA := hid (ha hdn)
    have HBB := hid (hb hdn)
    have HDN := hid hdn
    clear h hdn ha hb
    go_enter Tryz.func55, Tryz.ntmps55
    go_wp2_with fail
    refine (HA.out w (Ext.refl w)).mono ?_
    rintro e w1 ⟨rfl, E1⟩
    have H1 := hid (H.out.ext E1)
    have HE1 := hid E1
    have HB1 := hid (Nat.le_trans hB E1.size)
    have HB0 := hid hB
    clear E1 d4 d5
    obtain ⟨⟨-, -, -, -, d4, d5⟩, ff⟩ := lk6 H1.out.hd
    have f4 := ff 4
    have f5 := ff 5
    clear ff hB
    by_cases her : er = 0
    · subst her
      by_cases hf0 : s.fuse = 0
      · have g1 : (s.fuse == 0) = true := by simpa using hf0
        have HS : Hid (Stp B w p x { s with down := true } (w1.setCell ⟨p, 5, none⟩ (.bool true))) := hid ⟨x, H1.out.cellSet 5 (.bool true) { s with down := true } ⟨rfl, rfl, rfl, rfl⟩ H1.out.gd.fu (block_set6 H1.out.hd 5 (.bool true)), ((Ext.fr HE1.out).trans (fr_setCell _ _ _ (by simp [DX.blk]))), (HE1.out.mono HB0.out).setCell (by exact H1.out.lo.1) _, fun q hq => .inl hq⟩
        have HR : Hid (doP s 0 act = (7, { s with down := true })) := hid (by unfold doP; rw [HDN.out, if_pos hf0]; rfl)
        clear hf0
        go_wp2
        go_ret
        rw [HR.out]
        exact ⟨rfl, HS.out⟩
      · have g1 : (s.fuse == 0) = false := by simpa using hf0
        have HF0 := hid hf0
        have HR : Hid (doP s 0 act = (0, act (fusS s))) := hid (by unfold doP fusS; rw [HDN.out, if_neg hf0]; rfl)
        by_cases hfp : 0 < s.fuse
        · have g2 : decide (0 < s.fuse) = true := by simpa using hfp
          have HD2 : Hid (Dk B (w1.setCell ⟨p, 4, none⟩ (.int .i64 (s.fuse - 1))) p x (fusS s)) := hid (H1.out.cellSet 4 (.int .i64 (s.fuse - 1)) (fusS s) ⟨rfl, rfl, rfl, rfl⟩ (by have := H1.out.gd.fu; unfold fusS; simp only [if_pos hfp]; omega) (by
            have := block_set6 H1.out.hd 4 (.int .i64 (s.fuse - 1))
            unfold diskO fusS
            simp only [if_pos hfp]
            exact this))
          have HF2 : Hid (Fr [p] w (w1.setCell ⟨p, 4, none⟩ (.int .i64 (s.fuse - 1)))) := hid ((Ext.fr HE1.out).trans (fr_setCell _ _ _ (by simp)))
          have HW : Hid (Below B w (w1.setCell ⟨p, 4, none⟩ (.int .i64 (s.fuse - 1)))) := hid ((HE1.out.mono HB0.out).setCell (by exact H1.out.lo.1) _)
          have hwr : IntKind.i64.wrap (s.fuse - 1) = s.fuse - 1 := IntWalk.i64_in _ (by have := H1.out.gd.fu; omega)
          clear hf0 hfp
          go_wp2_with fail
          refine (HBB.out trivial HF0.out _ HD2.out HF2.out HW.out).mono ?_
          rintro e w2 ⟨⟨u, rfl⟩, h2⟩
          have HS := hid (Stp.after H.out HF2.out HW.out h2)
          clear h2
          go_wp2
          go_ret
          rw [HR.out]
          exact ⟨rfl, HS.out⟩
        · have g2 : decide (0 < s.fuse) = false := by simpa using hfp
          have HD2 : Hid (Dk B w1 p x (fusS s)) := hid (by
            have : fusS s = s := by unfold fusS; rw [if_neg hfp]
            rw [this]; exact H1.out)
          have HF2 : Hid (Fr [p] w w1) := hid (Ext.fr HE1.out)
          have HW : Hid (Below B w w1) := hid (HE1.out.mono HB0.out)
          clear hf0 hfp
          go_wp2_with fail
          refine (HBB.out trivial HF0.out _ HD2.out HF2.out HW.out).mono ?_
          rintro e w2 ⟨⟨u, rfl⟩, h2⟩
          have HS := hid (Stp.after H.out HF2.out HW.out h2)
          clear h2
          go_wp2
          go_ret
          rw [HR.out]
          exact ⟨rfl, HS.out⟩
    · have g0 : ((er : Int) != 0) = true := by simp; omega
      have HS := hid (Stp.same H.out HE1.out HB0.out)
      have HR : Hid (doP s er act = (er, s)) := hid (by unfold doP; rw [HDN.out, if_pos her]; rfl)
      clear her
      go_wp2
      go_ret
      rw [HR.out]
      exact ⟨rfl, HS.out⟩
end Go.Proofs.YtijpokajhjhllaaGreatDoor

set_option linter.unusedSimpArgs false
set_option linter.unusedVariables false
namespace Go.Proofs.YtijpokajhjhllaaGreatDoor
open Go Go.RowKit Go.Tum Go.ChangeMaps
open Go.ParB (upd Lof)
open Go.ParE (putS slotsR slots Closed)

def Bx (w : World) (b : Nat) (v : Value) (T : TypeId) : Prop := w.heap[b]? = some (.cells #[v] T (0, 0))
theorem Bx.ext {w w' : World} {b : Nat} {v : Value} {T : TypeId} (h : Bx w b v T) (k : Ext w w') : Bx w' b v T := k.obj h
theorem Bx.cell {w : World} {b : Nat} {v : Value} {T : TypeId} (h : Bx w b v T) : w.cell? ⟨b, 0, none⟩ = some v := (lk1 h).1
theorem Bx.new (w : World) (v : Value) (T : TypeId) : Bx (w.alloc (.cells #[v] T (0, 0))) w.heap.size v T := heap_alloc_new _ _
theorem PM.ext {w w' : World} {m : Nat} {l : Dir} (h : PM w m l) (k : Ext w w') : PM w' m l := h.fr (S := []) (Ext.fr k) (by simp)
abbrev bp (b : Nat) : Value := .pointer (some ⟨b, 0, none⟩)
theorem look_fact {B : Nat} {w : World} {p : Nat} {x : DX} {s : PS} (h : Dk B w p x s) (n : Nm) (hk : n.length ≤ maxLen) : ∀ j, (Instr.lookup 68 (.map (some x.md)) (vN n) false).run Tryz.prog (w.drewN j) = .ok (ptr ((look s.dir n).map x.bk)) (w.drewN j) := by
  intro j
  have := (h.dr.ext (Ext.drewN w j)).look n hk
  rwa [hb_look] at this
theorem enter47 (args : Array Value) (w : World) : Sem.run Tryz.prog (callFunc 56 args) w = .ok (.enter 56 args) w := enter_of Tryz.func56 (by kernel_rfl) (by kernel_rfl) args w
theorem enter49 (args : Array Value) (w : World) : Sem.run Tryz.prog (callFunc 58 args) w = .ok (.enter 58 args) w := enter_of Tryz.func58 (by kernel_rfl) (by kernel_rfl) args w
set_option maxHeartbeats 1000000 in
theorem cre1_any {B : Nat} {w : World} {p : Nat} {x : DX} {s : PS} (n : Nm) (hk : n.length ≤ maxLen) (h : Dk B w p x s) (bd bn : Nat) (hd : Bx w bd (pv p) 24) (hn : Bx w bn (vN n) 9) :
    Calls Tryz.prog 56 #[bp bn, bp bd] w fun e w' => e = .returned (.int .i64 (creE s n : Nat)) ∧ Ext w w' := by
  have H := hid h
  have HD := hid hd
  have HN := hid hn
  have cn := hn.cell
  clear h hd hn
  go_enter Tryz.func56, Tryz.ntmps56
  go_wp2_with fail
  refine (dnm_any n w hk).mono ?_
  rintro e w1 ⟨rfl, E1⟩
  have H1 := hid (H.out.ext E1)
  have HE1 := hid E1
  have cd := (HD.out.ext E1).cell
  have cn1 := (HN.out.ext E1).cell
  clear E1 cn
  cases hok : nmOk n with
  | false =>
    have HC : Hid (creE s n = 1) := hid (by unfold creE; rw [if_pos hok])
    clear hok
    go_wp2
    go_ret
    rw [HC.out]
    exact ⟨rfl, HE1.out⟩
  | true =>
    obtain ⟨⟨-, d1, -⟩, -⟩ := lk6 H1.out.hd
    have hlk := look_fact H1.out n hk
    cases hf : look s.dir n with
    | some f =>
      have HC : Hid (creE s n = 6) := hid (by unfold creE; rw [if_neg (by rw [hok]; simp), hf]; rfl)
      rw [hf] at hlk
      simp only [Option.map_some, ptr] at hlk
      clear hf hok
      generalize x.bk f = b at *
      go_wp2_with fail
      go_quiet (fail)
      clear hlk d1
      go_wp2
      go_ret
      rw [HC.out]
      exact ⟨rfl, HE1.out.trans (Ext.drewN _ _)⟩
    | none =>
      rw [hf] at hlk
      simp only [Option.map_none, ptr] at hlk
      have HF := hid hf
      have HOK := hid hok
      clear hf hok
      go_wp2_with fail
      go_quiet (fail)
      clear hlk d1 cd cn1
      obtain ⟨w2, hw2⟩ : ∃ w2, w1.drewN nq = w2 := ⟨_, rfl⟩
      have E2 : Ext w1 w2 := by rw [← hw2]; exact Ext.drewN _ _
      rw [hw2]
      clear hw2
      have H2 := H1.out.ext E2
      obtain ⟨⟨-, d1, -⟩, -⟩ := lk6 H2.hd
      have cd := (HD.out.ext (HE1.out.trans E2)).cell
      have hln := H2.dr.len
      rw [hb_len] at hln
      have HE2 := hid (HE1.out.trans E2)
      clear E2 H2
      by_cases h60 : 60 ≤ s.dir.length
      · have g : decide ((s.dir.length : Int) ≥ 60) = true := by rw [decide_eq_true_eq]; omega
        have HC : Hid (creE s n = 4) := hid (by unfold creE; rw [if_neg (by rw [HOK.out]; simp), HF.out, if_pos h60]; rfl)
        clear h60
        go_wp2
        go_ret
        rw [HC.out]
        exact ⟨rfl, HE2.out⟩
      · have g : decide ((s.dir.length : Int) ≥ 60) = false := by rw [decide_eq_false_iff_not]; omega
        have HC : Hid (creE s n = 0) := hid (by unfold creE; rw [if_neg (by rw [HOK.out]; simp), HF.out, if_neg h60]; rfl)
        clear h60
        go_wp2
        go_ret
        rw [HC.out]
        exact ⟨rfl, HE2.out⟩
end Go.Proofs.YtijpokajhjhllaaGreatDoor

set_option linter.unusedSimpArgs false
set_option linter.unusedVariables false
namespace Go.Proofs.YtijpokajhjhllaaGreatDoor
open Go Go.RowKit Go.Tum Go.ChangeMaps
open Go.ParB (upd Lof)
open Go.ParE (putS slotsR slots Closed)

theorem newOf_mem {l : List Chg} {f : Nat} (h : f ∈ newOf l) : ∃ c ∈ l, c.file = some f ∧ c.frm = [] := by
  unfold newOf at h
  obtain ⟨c, hc, e⟩ := List.mem_filterMap.1 h
  split at e
  · exact ⟨c, hc, e, by assumption⟩
  · cases e
theorem Gd.cnt {s : PS} (h : Gd s) : ∀ f ∈ cntd s, f < s.files.length := by
  intro f hf
  unfold cntd at hf
  rcases List.mem_append.1 hf with hf | hf
  · obtain ⟨z, hz, rfl⟩ := List.mem_map.1 hf
    exact (h.snm hz).2
  · obtain ⟨c, hc, e, -⟩ := newOf_mem hf
    exact (h.op c hc).2.2.1 f e
theorem sumL_congr {fs gs : List (List UInt8 × Nat)} {l : List Nat} (h : ∀ f ∈ l, flen fs f = flen gs f) : sumL fs l = sumL gs l := by
  unfold sumL
  rw [List.map_congr_left h]
def filS (s : PS) : PS := { s with files := s.files ++ [([], 0)] }
theorem flen_app {fs : List (List UInt8 × Nat)} {f : Nat} (h : f < fs.length) : flen (fs ++ [([], 0)]) f = flen fs f := by
  unfold flen
  rw [List.getD_eq_getElem?_getD, List.getD_eq_getElem?_getD, List.getElem?_append_left h]
theorem gd_fil {s : PS} (h : Gd s) : Gd (filS s) := by
  refine ⟨h.rm, h.ds, fun k z hz => ⟨(h.nm k z hz).1, ?_⟩, fun c hc => ⟨(h.op c hc).1, (h.op c hc).2.1, fun f hf => ?_, (h.op c hc).2.2.2⟩, fun y hy => ?_, ?_, h.dk, h.fu⟩
  · have := (h.nm k z hz).2
    show z.2 < (s.files ++ [([], 0)]).length
    simp; omega
  · have := (h.op c hc).2.2.1 f hf
    show f < (s.files ++ [([], 0)]).length
    simp; omega
  · rcases List.mem_append.1 hy with hy | hy
    · exact h.fl y hy
    · simp at hy; subst hy; simp
  · have : held (filS s) = held s := sumL_congr fun f hf => flen_app (h.cnt f hf)
    rw [this]; exact h.hd
def DX.more (x : DX) (b : Nat) : DX := { x with bl := x.bl ++ [(b, .slice none 0 0)] }
theorem more_old {x : DX} {b i : Nat} (h : i < x.bl.length) : (x.more b).bk i = x.bk i ∧ (x.more b).sv i = x.sv i := by
  unfold DX.bk DX.sv DX.more
  simp only [List.getD_eq_getElem?_getD, List.getElem?_append_left h]
  exact ⟨trivial, trivial⟩
theorem more_new {x : DX} {b i : Nat} (h : i = x.bl.length) : (x.more b).bk i = b ∧ (x.more b).sv i = .slice none 0 0 := by
  subst h
  unfold DX.bk DX.sv DX.more
  simp
theorem more_hb {x : DX} {b : Nat} {d : Dir} (h : ∀ z ∈ d, z.2 < x.bl.length) : (x.more b).hb d = x.hb d := by
  unfold DX.hb
  refine List.map_congr_left fun z hz => ?_
  rw [(more_old (h z hz)).1]
theorem more_cc {x : DX} {b : Nat} {l : List Chg} (h : ∀ c ∈ l, ∀ f, c.file = some f → f < x.bl.length) : l.flatMap (x.more b).cc = l.flatMap x.cc := by
  induction l with
  | nil => rfl
  | cons c r ih =>
    rw [List.flatMap_cons, List.flatMap_cons, ih fun c hc => h c (List.mem_cons_of_mem _ hc)]
    congr 1
    unfold DX.cc
    cases hf : c.file with
    | none => rfl
    | some f =>
      simp only [Option.map_some]
      rw [(more_old (h c (by simp) f hf)).1]
theorem Dk.more {B : Nat} {w w1 : World} {p : Nat} {x : DX} {s : PS} (h : Dk B w p x s) (k : Ext w w1) (hb : w1.heap[w.heap.size]? = some (fileO (.slice none 0 0) 0)) (hB : B ≤ w.heap.size) : Dk B w1 p (x.more w.heap.size) (filS s) := by
  have H := h.ext k
  have hlt : ∀ i, i < s.files.length → i < x.bl.length := fun i hi => by rw [h.fn]; exact hi
  have hbl : ∀ q ∈ x.bl.map Prod.fst, q < w.heap.size := by
    intro q hq
    obtain ⟨i, hi, e⟩ := List.mem_iff_getElem.1 hq
    have hi2 : i < s.files.length := by rw [← h.fn]; simpa using hi
    have := (h.fi i hi2).1
    have e2 : x.bk i = q := by rw [← e]; simp [DX.bk, List.getD_eq_getElem?_getD, hlt i hi2]
    rw [e2] at this
    exact (Array.getElem?_eq_some_iff.1 this).1
  refine ⟨H.hd, ?_, ?_, ?_, ?_, fun i hi => ?_, ?_, fun i j hi hj hij g hg => ?_, h.ne, ⟨h.lo.1, h.lo.2.1, h.lo.2.2.1, fun i hi => ?_⟩, gd_fil h.gd⟩
  · show PM w1 x.md ((x.more w.heap.size).hb s.dir)
    rw [more_hb fun z hz => hlt _ (h.gd.dnm hz).2]; exact H.dr
  · show PM w1 x.ms ((x.more w.heap.size).hb s.sure)
    rw [more_hb fun z hz => hlt _ (h.gd.snm hz).2]; exact H.sr
  · show w1.ownsRow B 93 3 x.vo s.opn.length (s.opn.flatMap (x.more w.heap.size).cc)
    rw [more_cc fun c hc f hf => hlt f ((h.gd.op c hc).2.2.1 f hf)]; exact H.op
  · simp [DX.more, filS, h.fn]
  · simp only [filS, List.length_append, List.length_cons, List.length_nil] at hi
    by_cases hlast : i < s.files.length
    · obtain ⟨e1, e2⟩ := more_old (b := w.heap.size) (hlt i hlast)
      rw [e1, e2]
      have : (filS s).files[i]'(by simp [filS]; omega) = s.files[i] := List.getElem_append_left hlast
      rw [this]; exact H.fi i hlast
    · have e : i = s.files.length := by omega
      obtain ⟨e1, e2⟩ := more_new (x := x) (b := w.heap.size) (i := i) (by rw [h.fn]; exact e)
      rw [e1, e2]
      have : (filS s).files[i]'(by simp [filS]; omega) = ([], 0) := by subst e; simp [filS]
      rw [this]
      exact ⟨hb, World.ownsRow_nil _ _ _ _⟩
  · show ((x.bl ++ [(w.heap.size, Value.slice none 0 0)]).map Prod.fst).Nodup
    rw [List.map_append, List.nodup_append]
    refine ⟨h.fd, by simp, fun a ha b hb2 e => ?_⟩
    simp at hb2
    have := hbl a ha
    omega
  · simp only [filS, List.length_append, List.length_cons, List.length_nil] at hi hj
    by_cases h1 : i < s.files.length
    · by_cases h2 : j < s.files.length
      · rw [(more_old (hlt i h1)).2] at hg
        rw [(more_old (hlt j h2)).2]
        exact h.od i j h1 h2 hij g hg
      · rw [(more_new (x := x) (b := w.heap.size) (i := j) (by rw [h.fn]; omega)).2]; simp [Value.ownBlock]
    · rw [(more_new (x := x) (b := w.heap.size) (i := i) (by rw [h.fn]; omega)).2] at hg; simp [Value.ownBlock] at hg
  · simp only [filS, List.length_append, List.length_cons, List.length_nil] at hi
    by_cases h1 : i < s.files.length
    · rw [(more_old (hlt i h1)).1]; exact h.lo.2.2.2 i h1
    · rw [(more_new (x := x) (b := w.heap.size) (i := i) (by rw [h.fn]; omega)).1]; exact hB
theorem more_blk {x : DX} {b p : Nat} : ∀ q ∈ (x.more b).blk p, q ∈ x.blk p ∨ q = b := by
  intro q hq
  simp only [DX.blk, DX.more, List.map_append, List.flatMap_append, List.mem_cons, List.mem_append] at hq ⊢
  rcases hq with h | h | h | (h | h | h) | h | h
  · exact .inl (.inl h)
  · exact .inl (.inr (.inl h))
  · exact .inl (.inr (.inr (.inl h)))
  · exact .inl (.inr (.inr (.inr (.inl (.inl h)))))
  · exact .inl (.inr (.inr (.inr (.inl (.inr h)))))
  · right; simpa using h
  · exact .inl (.inr (.inr (.inr (.inr h))))
  · simp [oB, Value.ownBlock] at h
theorem Stp.of_more {B : Nat} {w w1 w2 : World} {p b : Nat} {x : DX} {s2 : PS} (hb : w.heap.size ≤ b) (k : Ext w w1) (hB : B ≤ w.heap.size) (h : Stp B w1 p (x.more b) s2 w2) : Stp B w p x s2 w2 := by
  obtain ⟨x', d, f, bl, q⟩ := h
  refine ⟨x', d, ?_, (k.mono hB).trans bl, fun y hy => ?_⟩
  · refine ⟨f.os.trans k.os, f.tape.trans k.tape, f.output.trans k.output, Nat.le_trans k.size f.size, fun j hj hn => (f.block j (Nat.lt_of_lt_of_le hj k.size) fun hm => ?_).trans (k.block j hj)⟩
    rcases more_blk j hm with h1 | h1
    · exact hn h1
    · omega
  · rcases q y hy with h1 | h1
    · rcases more_blk y h1 with h2 | h2
      · exact .inl h2
      · exact .inr (by omega)
    · exact .inr (Nat.le_trans k.size h1)
set_option maxHeartbeats 1000000 in
theorem cre2_any {B : Nat} {w : World} {p : Nat} {x : DX} {s : PS} (n : Nm) (hk : n.length ≤ maxLen) (h : Dk B w p x s) (bd bn : Nat) (hd : Bx w bd (pv p) 24) (hn : Bx w bn (vN n) 9) (hB : B ≤ w.heap.size)
    (hg : Gd (altP ⟨[], n, some s.files.length⟩ (filS s))) (hl : s.opn.length ≤ 100000) :
    Calls Tryz.prog 58 #[bp bd, bp bn] w fun e w' => (∃ u, e = .returned u) ∧ Stp B w p x (altP ⟨[], n, some s.files.length⟩ (filS s)) w' := by
  have E1 : Ext w (w.alloc (fileO (.slice none 0 0) 0)) := Ext.alloc _ _
  have H1 := hid (h.more E1 (heap_alloc_new _ _) hB)
  have hbk : ((some s.files.length).map (x.more w.heap.size).bk) = some w.heap.size := by
    simp only [Option.map_some]
    rw [(more_new (x := x) (b := w.heap.size) (i := s.files.length) h.fn.symm).1]
  have cd := hd.cell
  have cn := hn.cell
  have HE1 := hid E1
  have HG := hid hg
  have HBK := hid hbk
  clear E1 h hd hn hg hbk
  go_enter Tryz.func58, Tryz.ntmps58
  go_wp2_with fail
  have hcall := dalt_any ⟨[], n, some s.files.length⟩ H1.out (by simp [maxLen]) hk HG.out (Nat.le_trans hB HE1.out.size) hl
  rw [HBK.out] at hcall
  refine hcall.mono ?_
  rintro e w2 ⟨⟨u, rfl⟩, h2⟩
  have HS := hid (Stp.of_more (Nat.le_refl _) HE1.out hB h2)
  clear h2 hcall
  go_wp2
  go_returns
  exact ⟨⟨_, rfl⟩, HS.out⟩
theorem Bx.fr {w w' : World} {b : Nat} {v : Value} {T : TypeId} {S : List Nat} (h : Bx w b v T) (f : Fr S w w') (hb : b ∉ S) : Bx w' b v T := (f.block b (Array.getElem?_eq_some_iff.1 h).1 hb).trans h
theorem DoR.ext {B : Nat} {w W w' : World} {p : Nat} {x : DX} {r : Nat × PS} {e : Ending} (h : DoR B W p x r e w') (k : Ext w W) (hB : B ≤ w.heap.size) : DoR B w p x r e w' := by
  obtain ⟨h1, x', d, f, b, q⟩ := h
  refine ⟨h1, x', d, (Ext.fr k).trans f, (k.mono hB).trans b, fun y hy => ?_⟩
  rcases q y hy with h2 | h2
  · exact .inl h2
  · exact .inr (Nat.le_trans k.size h2)
theorem doP_done {s : PS} {er : Nat} {act : PS → PS} (h1 : s.down = false) (h2 : er = 0) (h3 : s.fuse ≠ 0) : (doP s er act).2 = act (fusS s) := by
  unfold doP fusS
  rw [h1, h2, if_neg h3]; rfl
set_option maxHeartbeats 1000000 in
theorem dcreate_any {B : Nat} {w : World} {p : Nat} {x : DX} {s : PS} (n : Nm) (hk : n.length ≤ maxLen) (h : Dk B w p x s) (hB : B ≤ w.heap.size) (hg : Gd (creP s n).2) (hl : s.opn.length ≤ 100000) :
    Calls Tryz.prog 16 #[pv p, vN n] w fun e w' => DoR B w p x (creP s n) e w' := by
  have E1 : Ext w (w.alloc (.cells #[pv p] 24 (0, 0))) := Ext.alloc _ _
  have b1 := Bx.new w (pv p) 24
  have E2 := E1.trans (Ext.alloc (w.alloc (.cells #[pv p] 24 (0, 0))) (.cells #[vN n] 9 (0, 0)))
  have b2 := Bx.new (w.alloc (.cells #[pv p] 24 (0, 0))) (vN n) 9
  have b1' := b1.ext (Ext.alloc (w.alloc (.cells #[pv p] 24 (0, 0))) (.cells #[vN n] 9 (0, 0)))
  have c1 := b1'.cell
  rw [World.size_alloc] at b2
  have HB1 := hid b1'
  have HB2 := hid b2
  have HE := hid E2
  have H := hid (h.ext E2)
  have HG := hid hg
  have HB := hid hB
  clear E1 E2 b1 b2 b1' h hg
  go_enter Tryz.func16, Tryz.ntmps16
  go_wp2_with fail
  obtain ⟨W0, hW0⟩ : ∃ W0, (w.alloc (.cells #[pv p] 24 (0, 0))).alloc (.cells #[vN n] 9 (0, 0)) = W0 := ⟨_, rfl⟩
  rw [hW0] at HB1 HB2 HE H c1 ⊢
  have hp := (Array.getElem?_eq_some_iff.1 H.out.hd).1
  have hpw : p ≠ w.heap.size ∧ p ≠ w.heap.size + 1 := ⟨fun e => by
    have := HB1.out; rw [← e] at this; have h2 := H.out.hd; unfold Bx at this; rw [this] at h2; simp at h2, fun e => by
    have := HB2.out; rw [← e] at this; have h2 := H.out.hd; unfold Bx at this; rw [this] at h2; simp at h2⟩
  obtain ⟨a, ha⟩ : ∃ a, w.heap.size = a := ⟨_, rfl⟩
  obtain ⟨b, hb⟩ : ∃ b, a + 1 = b := ⟨_, rfl⟩
  rw [ha] at HB1 HB2 hpw c1 ⊢
  rw [hb] at HB2 hpw ⊢
  have HPW := hid hpw
  clear hW0 hb c1
  refine (ddo_any H.out (Nat.le_trans HB.out HE.out.size) 56 58 _ _ enter47 enter49 (creE s n) (fun s => { s with files := s.files ++ [([], 0)], opn := s.opn ++ [⟨[], n, some s.files.length⟩] })
    (fun _ w' k => cre1_any n hk (H.out.ext k) a b (HB1.out.ext k) (HB2.out.ext k))
    (fun h1 h2 h3 w' hD hF hbl => cre2_any n hk hD a b (HB1.out.fr hF (by simpa using Ne.symm HPW.out.1)) (HB2.out.fr hF (by simpa using Ne.symm HPW.out.2)) (Nat.le_trans (Nat.le_trans HB.out HE.out.size) hF.size) (by have := HG.out; unfold creP at this; rw [doP_done h1 h2 h3] at this; exact this) hl)).mono ?_
  rintro e w2 ⟨rfl, h2⟩
  have HS : Hid (DoR B w p x (creP s n) _ w2) := hid (DoR.ext ⟨rfl, h2⟩ HE.out HB.out)
  clear h2
  go_wp2
  go_ret
  exact HS.out
end Go.Proofs.YtijpokajhjhllaaGreatDoor

set_option linter.unusedSimpArgs false
set_option linter.unusedVariables false
namespace Go.Proofs.YtijpokajhjhllaaGreatDoor
open Go Go.RowKit Go.Tum Go.ChangeMaps
open Go.ParB (upd Lof)
open Go.ParE (putS slotsR slots Closed)

/-- A range over the map m of l, its iterator in block r: what is still to come. -/
def RNG (w : World) (m r : Nat) (l rem : Dir) (cnt : Nat) : Prop := ∃ (D : DU) (left : Lit → Bool) (n : Nat), w.ranges Tryz.prog 9 rdP m r n D left cnt ∧ (∀ x z, D.atKey (kN x) z = match l.lookup x with | none => z | some b => .lit (.int .i64 (b : Int))) ∧
  rem = l.filter (fun z => left (kN z.1)) ∧ (l.map Prod.fst).Nodup ∧ n = l.length ∧ Maps.size D = l.length
theorem RNG.left {w : World} {m r cnt : Nat} {l rem : Dir} (h : RNG w m r l rem cnt) : w.rangeLeft m r = cnt := by
  obtain ⟨D, left, n, h1, -⟩ := h
  exact h1.left_eq
theorem RNG.pm {w : World} {m r cnt : Nat} {l rem : Dir} (h : RNG w m r l rem cnt) : PM w m l := by
  obtain ⟨D, left, n, h1, h2, -, -, h3, h4⟩ := h
  subst h3
  exact ⟨D, h1.owns, h4, h2⟩
theorem RNG.kept {w w' : World} {m r cnt : Nat} {l rem : Dir} {S : List Nat} (h : RNG w m r l rem cnt) (f : Fr S w w') (h1 : m ∉ S) (h2 : r ∉ S) : RNG w' m r l rem cnt := by
  obtain ⟨D, left, n, ⟨es, clock, since, seen, c0, hb, F, hs, hD, hr, rest⟩, k2, k3, k4, k5, k6⟩ := h
  exact ⟨D, left, n, ⟨es, clock, since, seen, c0, (f.block m (Array.getElem?_eq_some_iff.1 hb).1 h1).trans hb, F, hs, hD, (f.block r (Array.getElem?_eq_some_iff.1 hr).1 h2).trans hr, rest⟩, k2, k3, k4, k5, k6⟩
theorem nodup_lookup {l : Dir} (hn : (l.map Prod.fst).Nodup) {z : Nm × Nat} (hz : z ∈ l) : l.lookup z.1 = some z.2 := by
  induction l with
  | nil => simp at hz
  | cons y r ih =>
    rw [List.map_cons, List.nodup_cons] at hn
    obtain ⟨a, b⟩ := y
    rw [lk_cons]
    rcases List.mem_cons.1 hz with rfl | hz
    · simp
    · have : z.1 ≠ a := fun e => hn.1 (List.mem_map.2 ⟨z, hz, e⟩)
      rw [if_neg this]; exact ih hn.2 hz
theorem PM.range {w : World} {m : Nat} {l : Dir} (h : PM w m l) (hn : (l.map Prod.fst).Nodup) :
    ∃ w', (Instr.range 68 (.map (some m))).run Tryz.prog w = .ok (.pointer (some ⟨w.heap.size, 0, none⟩)) w' ∧ RNG w' m w.heap.size l l l.length ∧ Ext w w' := by
  obtain ⟨D, h1, h2, h3⟩ := h
  obtain ⟨w', r1, r2, r3, r4⟩ := h1.range keyedS Tryz.underlying68
  refine ⟨w', r1, ⟨D, _, l.length, by rw [h2] at r2; exact r2, h3, ?_, hn, rfl, h2⟩, Ext.grown r3 rfl⟩
  refine (List.filter_eq_self.2 fun z hz => ?_).symm
  rw [PM.has (w := w) (m := m) h3 z.1, nodup_lookup hn hz]; rfl
theorem RNG.next {w : World} {m r cnt : Nat} {l rem : Dir} (h : RNG w m r l rem cnt) (ty : TypeId) :
    (rem = [] ∧ (Instr.next (.pointer (some ⟨r, 0, none⟩)) false ty).run Tryz.prog w = .ok (.tuple #[.bool false]) w) ∨
    ∃ (z : Nm × Nat) (w' : World) (cnt' : Nat), z ∈ rem ∧ z ∈ l ∧ z.1.length ≤ maxLen ∧ (Instr.next (.pointer (some ⟨r, 0, none⟩)) false ty).run Tryz.prog w = .ok (.tuple #[.bool true, vN z.1, bp z.2]) w' ∧ RNG w' m r l (noN rem z.1) cnt' ∧ cnt' < cnt ∧ Fr [r] w w' ∧ (Instr.entry (.pointer (some ⟨r, 0, none⟩))).run Tryz.prog w' = .ok (.tuple #[vN z.1, bp z.2]) w' := by
  obtain ⟨D, left, n, h1, h2, h3, h4, h5, h6⟩ := h
  rcases h1.next keyedS ty with ⟨-, k1, k2⟩ | ⟨key, v, kl, y, w', cnt', k1, k2, k3, k4, k5, k6, k7, k8, k9, k10⟩
  · left
    refine ⟨?_, k2⟩
    rw [h3]
    exact List.filter_eq_nil_iff.2 fun z hz => by rw [k1]; simp
  · right
    obtain ⟨nm, rfl, rfl, hlen⟩ := key_inv k1
    cases hlk : l.lookup nm with
    | none =>
      exfalso
      have a1 := k4 .nil
      have a2 := k4 (.lit (.int .i64 0))
      rw [h2, hlk] at a1 a2
      simp only at a1 a2
      rw [← a1] at a2
      cases a2
    | some b =>
      have a1 := k4 .nil
      rw [h2, hlk] at a1
      simp only at a1
      obtain ⟨y1, y2⟩ := y
      simp only at a1
      subst a1
      have hv : v = ptr (some b) := rdP_inv (some b) k3
      subst hv
      have hz : (nm, b) ∈ l := look_mem hlk
      refine ⟨(nm, b), w', cnt', ?_, hz, hlen, k5, ⟨D, _, n, k6, h2, ?_, h4, h5, h6⟩, k7, ⟨k8.os, k8.tape, k8.output, k8.size, fun j hj hn => k8.block j hj fun e => hn (by cases e; simp)⟩, k10⟩
      · rw [h3]; exact List.mem_filter.2 ⟨hz, k2⟩
      · rw [h3]
        unfold noN
        rw [List.filter_filter]
        refine List.filter_congr fun z hz => ?_
        by_cases e : z.1 = nm
        · rw [e, WideAt.sameKey_self (by simp [WideAt.IsKeyLit])]; simp
        · rw [Maps.sameKey_ne (kN_ne e)]; simp [e]
section
variable (w : World) {ops : Array Oper} {rest : List Oper} {o : Oper} {a : Act} {Q : Exit → Act → World → Prop}
theorem wpList_range_PM (hg : o.guard = none) (mo : Operand) (hop : o.op = Op.range 68 mo) (m : Nat) (l : Dir) (hm : a.eval mo = .map (some m)) (h : PM w m l) (hn : (l.map Prod.fst).Nodup)
    (hK : ∀ w', RNG w' m w.heap.size l l l.length → Ext w w' → wpList Tryz.prog ops Q rest (a.put o.dst (.pointer (some ⟨w.heap.size, 0, none⟩))) w') : wpList Tryz.prog ops Q (o :: rest) a w := by
  refine wpList_plain hg fun K' hK' => ?_
  obtain ⟨w', hrun, r1, r2⟩ := h.range hn
  unfold Oper.wp
  simp [execOp, hop, hm, hrun, Result.andThen]
  exact hK' _ _ (hK w' r1 r2)
theorem wpList_next_RNG (hg : o.guard = none) (it : Operand) (hop : o.op = Op.next it false) (m r cnt : Nat) (l rem : Dir) (hit : a.eval it = .pointer (some ⟨r, 0, none⟩)) (h : RNG w m r l rem cnt)
    (hDone : rem = [] → wpList Tryz.prog ops Q rest (a.put o.dst (.tuple #[.bool false])) w)
    (hMore : ∀ (n : Nm) (b : Nat) (w' : World) (cnt' : Nat), (n, b) ∈ rem → (n, b) ∈ l → n.length ≤ maxLen → RNG w' m r l (noN rem n) cnt' → cnt' < cnt → Fr [r] w w' → (Instr.entry (.pointer (some ⟨r, 0, none⟩))).run Tryz.prog w' = .ok (.tuple #[vN n, bp b]) w' → wpList Tryz.prog ops Q rest (a.put o.dst (.tuple #[.bool true, vN n, bp b])) w') :
    wpList Tryz.prog ops Q (o :: rest) a w := by
  refine wpList_plain hg fun K' hK' => ?_
  unfold Oper.wp
  rcases h.next o.type with ⟨h0, hrun⟩ | ⟨z, w', cnt', k1, k2, k3, k4, k5, k6, k7, k8⟩
  · simp [execOp, hop, hit, hrun, Result.andThen]
    exact hK' _ _ (hDone h0)
  · simp [execOp, hop, hit, k4, Result.andThen]
    exact hK' _ _ (hMore z.1 z.2 w' cnt' k1 k2 k3 k5 k6 k7 k8)
end
/-- Bytes of what is still to come. -/
def remL (x : DX) (s : PS) (rem : Dir) : Nat := sumL s.files ((s.sure.filter fun z => rem.any fun y => y.1 == z.1).map Prod.snd)
theorem sum_strike (fs : List (List UInt8 × Nat)) (n : Nm) (f : Nat) : ∀ (d : Dir), (d.map Prod.fst).Nodup → (n, f) ∈ d → sumL fs (d.map Prod.snd) = flen fs f + sumL fs ((noN d n).map Prod.snd)
  | [], _, h => absurd h (by simp)
  | (a, b) :: r, hn, h => by
    rw [List.map_cons, List.nodup_cons] at hn
    unfold sumL noN
    by_cases e : a = n
    · subst e
      have hb : b = f := by
        rcases List.mem_cons.1 h with e2 | e2
        · cases e2; rfl
        · exact absurd (List.mem_map.2 ⟨_, e2, rfl⟩) hn.1
      subst hb
      have : (r.filter fun p => p.1 != a) = r := List.filter_eq_self.2 fun z hz => by
        have : z.1 ≠ a := fun e => hn.1 (List.mem_map.2 ⟨z, hz, e⟩)
        simpa using this
      rw [List.filter_cons]
      simp [this]
    · have h2 : (n, f) ∈ r := by
        rcases List.mem_cons.1 h with e2 | e2
        · cases e2; exact absurd rfl e
        · exact e2
      have ih := sum_strike fs n f r hn.2 h2
      unfold sumL noN at ih
      rw [List.filter_cons]
      simp [e]
      simp at ih
      omega
theorem sorted_nodup {d : Dir} (h : Sorted d) : (d.map Prod.fst).Nodup := by
  rw [List.nodup_iff_pairwise_ne, List.pairwise_map]
  refine List.Pairwise.imp ?_ h
  intro a b hlt e
  rw [e] at hlt
  exact nm_irrefl _ hlt
theorem hb_noN (x : DX) (d : Dir) (n : Nm) : noN (x.hb d) n = x.hb (noN d n) := by
  unfold noN DX.hb
  rw [List.filter_map]; rfl
theorem hb_fst (x : DX) (d : Dir) : (x.hb d).map Prod.fst = d.map Prod.fst := by
  unfold DX.hb
  rw [List.map_map]; rfl
theorem hb_mem {x : DX} {d : Dir} {n : Nm} {b : Nat} (h : (n, b) ∈ x.hb d) : ∃ f, (n, f) ∈ d ∧ b = x.bk f := by
  obtain ⟨z, hz, e⟩ := List.mem_map.1 h
  cases e
  exact ⟨z.2, hz, rfl⟩
theorem sum_le {fs : List (List UInt8 × Nat)} {l : List Nat} {f : Nat} (h : f ∈ l) : flen fs f ≤ sumL fs l := by
  unfold sumL
  induction l with
  | nil => simp at h
  | cons a r ih =>
    rw [List.map_cons, List.sum_cons]
    rcases List.mem_cons.1 h with rfl | h
    · omega
    · have := ih h; omega
theorem sumL_append (fs : List (List UInt8 × Nat)) (a b : List Nat) : sumL fs (a ++ b) = sumL fs a + sumL fs b := by
  unfold sumL
  rw [List.map_append, List.sum_append]
theorem newOf_append (a b : List Chg) : newOf (a ++ b) = newOf a ++ newOf b := by unfold newOf; rw [List.filterMap_append]
theorem Dk.file {B : Nat} {w : World} {p : Nat} {x : DX} {s : PS} (h : Dk B w p x s) {f : Nat} (hf : f < s.files.length) : ∃ ao cap, w.heap[x.bk f]? = some (fileO (.slice ao (flen s.files f) cap) (s.files.getD f ([], 0)).2) ∧ x.sv f = .slice ao (flen s.files f) cap ∧ Own w B 5 (.slice ao (flen s.files f) cap) (s.files.getD f ([], 0)).1 := by
  obtain ⟨a, b⟩ := h.fi f hf
  obtain ⟨ao, cap, e⟩ := row_shape b
  have e2 : s.files.getD f ([], 0) = s.files[f] := by rw [List.getD_eq_getElem?_getD, List.getElem?_eq_getElem hf]; rfl
  have e3 : flen s.files f = s.files[f].1.length := by unfold flen; rw [e2]
  refine ⟨ao, cap, ?_, ?_, ?_⟩
  · rw [e3, ← e, e2]; exact a
  · rw [e3]; exact e
  · rw [e3, ← e, e2]; exact b
theorem newOf_step {l : List Chg} {j : Nat} (h : j < l.length) : newOf (l.take (j + 1)) = newOf (l.take j) ++ (if l[j].frm = [] then l[j].file.toList else []) := by
  rw [List.take_succ_eq_append_getElem h, newOf_append]
  congr 1
  unfold newOf
  rw [List.filterMap_cons]
  split
  · rename_i e
    split at e
    · rename_i e2; rw [if_pos e2, e]; rfl
    · rename_i e2; rw [if_neg e2]; rfl
  · rename_i f e
    split at e
    · rename_i e2; rw [if_pos e2, e]; rfl
    · cases e
set_option maxRecDepth 100000 in
set_option maxHeartbeats 2000000 in
theorem dheld_any {B : Nat} {w : World} {p : Nat} {x : DX} {s : PS} (h : Dk B w p x s) :
    Calls Tryz.prog 30 #[pv p] w fun e w' => e = .returned (.int .i64 (held s : Nat)) ∧ Ext w w' := by
  have H := hid h
  obtain ⟨⟨-, -, c2, -⟩, -⟩ := lk6 h.hd
  have HM := hid h.sr
  have HND : Hid (((x.hb s.sure).map Prod.fst).Nodup) := hid (by rw [hb_fst]; exact sorted_nodup h.gd.sures)
  clear h
  go_enter Tryz.func30, Tryz.ntmps30
  go_wp2_with (at_range; refine wpList_range_PM _ rfl _ rfl x.ms (x.hb s.sure) rfl HM.out HND.out ?_; intro w0 hrg0 hE0; have HRG := hid hrg0; have HE0 := hid hE0; clear hrg0 hE0)
  clear c2
  obtain ⟨r, hr⟩ : ∃ r, w.heap.size = r := ⟨_, rfl⟩
  rw [hr] at HRG ⊢
  have HR := hid hr
  clear hr
  go_frame
  go_loopw [3] (fun v wr => ∃ (d : Dir) (cnt acc : Nat), v = .int .i64 acc ∧ Hid (RNG wr x.ms r (x.hb s.sure) (x.hb d) cnt) ∧ Hid (acc + sumL s.files (d.map Prod.snd) = sumL s.files (s.sure.map Prod.snd)) ∧ Hid (∀ z ∈ d, z ∈ s.sure) ∧ Hid ((d.map Prod.fst).Nodup) ∧ Hid (Ext w wr)) (fun _ wr => wr.rangeLeft x.ms r)
  case atStart => exact ⟨s.sure, _, 0, rfl, HRG, hid (by omega), hid fun z hz => hz, hid (sorted_nodup H.out.gd.sures), HE0⟩
  case round =>
    obtain ⟨d, cnt, acc, rfl, HRG, HSUM, HSUB, HDN, HE⟩ := hrel
    go_wp2_with (at_next; refine wpList_next_RNG _ rfl _ rfl x.ms r cnt (x.hb s.sure) (x.hb d) rfl HRG.out ?_ ?_)
    · intro h0
      have hd0 : d = [] := by
        cases d with
        | nil => rfl
        | cons a b => simp [DX.hb] at h0
      have HACC : Hid (acc = sumL s.files (s.sure.map Prod.snd)) := hid (by have := HSUM.out; rw [hd0] at this; simpa [sumL] using this)
      have H2 := hid (H.out.ext HE.out)
      clear h0 hd0 HSUM HSUB HDN HRG
      obtain ⟨⟨-, -, -, c3, -⟩, -⟩ := lk6 H2.out.hd
      have hro : RowsOf wr 3 x.vo x.cc s.opn := ⟨fun _ _ => rfl, Sl.of_owns H2.out.op⟩
      obtain ⟨vo, vcap, hvo, hle, hmm, hnn, hcell⟩ := hro.open
      have HC := hid hcell
      have HNN := hid hnn
      rw [hvo] at c3
      clear hro hcell hnn hvo
      obtain ⟨wb, hwb⟩ : ∃ wb, wb = wr := ⟨_, rfl⟩
      subst hwb
      go_wp2
      go_loopw [3, 29] (fun v iv wr => ∃ (j acc2 : Nat), j ≤ s.opn.length ∧ iv = .int .i64 j ∧ v = .int .i64 acc2 ∧ Hid (acc2 = acc + sumL s.files (newOf (s.opn.take j))) ∧ Hid (Ext wb wr)) (fun _ iv _ => s.opn.length - (intOf iv).toNat)
      case atStart => exact ⟨0, acc, by omega, rfl, rfl, hid (by simp [newOf, sumL]), hid (Ext.refl _)⟩
      case round =>
        obtain ⟨j, acc2, hj, rfl, rfl, HA2, HE2⟩ := hrel
        by_cases hlt : j < s.opn.length
        · obtain ⟨g, rfl⟩ := HNN.out (by omega)
          have m0 := cell_first (HE2.out.cell (HC.out g rfl j hlt 0 _ rfl))
          have m1 := cell_next (HE2.out.cell (HC.out g rfl j hlt 1 _ rfl)) (by decide)
          have m2 := cell_next (HE2.out.cell (HC.out g rfl j hlt 2 _ rfl)) (by decide)
          have hi1 : decide ((j : Int) < s.opn.length) = true := by simp; omega
          obtain ⟨c, hc⟩ : ∃ c, s.opn[j] = c := ⟨_, rfl⟩
          have hcm : c ∈ s.opn := by rw [← hc]; exact List.getElem_mem hlt
          have hstep := newOf_step hlt
          rw [hc] at m0 m1 m2 hstep
          have HCM := hid hcm
          have HST := hid hstep
          have HLT := hid hlt
          clear hc hcm hstep
          cases hfile : c.file with
          | none =>
            have hne : c.frm ≠ [] := fun e => by
              have := (H.out.gd.op c HCM.out).2.2.2 e
              rw [hfile] at this; simp at this
            rw [hfile] at m2
            simp only [Option.map_none, ptr] at m2
            have HN2 : Hid (newOf (s.opn.take (j + 1)) = newOf (s.opn.take j)) := hid (by rw [HST.out, if_neg hne]; simp)
            have hb : c.frm.isEmpty = false := by cases hq : c.frm with
              | nil => exact absurd hq hne
              | cons a b => rfl
            have HB := hid hb
            clear hne hfile hb
            generalize c.frm = nf at *
            generalize c.to = nt at *
            go_wp2_with fail
            refine (dcre_any _ nf nt (.pointer none) rfl).mono ?_
            rintro e w5 ⟨rfl, E5⟩
            have HE5 : Hid (Ext wb w5) := hid ((HE2.out.trans (Ext.alloc _ _)).trans E5)
            rw [HB.out]
            clear E5 m0 m1 m2
            go_wp2
            go_roundw
            case rel => exact ⟨j + 1, acc2, by omega, by go_num, rfl, hid (by rw [HN2.out]; exact HA2.out), HE5⟩
            case measure => simp [intOf]; omega
          | some f =>
            rw [hfile] at m2
            simp only [Option.map_some, ptr] at m2
            have hfl : f < s.files.length := (H.out.gd.op c HCM.out).2.2.1 f hfile
            have HFL := hid hfl
            cases hb : c.frm.isEmpty with
            | false =>
              have hne : c.frm ≠ [] := fun e => by rw [e] at hb; simp at hb
              have HN2 : Hid (newOf (s.opn.take (j + 1)) = newOf (s.opn.take j)) := hid (by rw [HST.out, if_neg hne]; simp)
              have HB := hid hb
              clear hne hfile hb hfl
              generalize c.frm = nf at *
              generalize c.to = nt at *
              generalize x.bk f = bf at *
              go_wp2_with fail
              refine (dcre_any _ nf nt (bp bf) rfl).mono ?_
              rintro e w5 ⟨rfl, E5⟩
              have HE5 : Hid (Ext wb w5) := hid ((HE2.out.trans (Ext.alloc _ _)).trans E5)
              rw [HB.out]
              clear E5 m0 m1 m2
              go_wp2
              go_roundw
              case rel => exact ⟨j + 1, acc2, by omega, by go_num, rfl, hid (by rw [HN2.out]; exact HA2.out), HE5⟩
              case measure => simp [intOf]; omega
            | true =>
              have hne : c.frm = [] := by cases hq : c.frm with
                | nil => rfl
                | cons a b => rw [hq] at hb; simp at hb
              have HN2 : Hid (newOf (s.opn.take (j + 1)) = newOf (s.opn.take j) ++ [f]) := hid (by rw [HST.out, if_pos hne, hfile]; rfl)
              have HB := hid hb
              have hbound : acc2 + flen s.files f ≤ 1048576 := by
                have a2 := H.out.gd.hd
                have a3 := H.out.gd.rm
                unfold held cntd at a2
                rw [sumL_append] at a2
                have e1 : sumL s.files (newOf s.opn) = sumL s.files (newOf (s.opn.take (j + 1))) + sumL s.files (newOf (s.opn.drop (j + 1))) := by
                  rw [← sumL_append, ← newOf_append, List.take_append_drop]
                rw [HN2.out, sumL_append] at e1
                have e2 : sumL s.files [f] = flen s.files f := by simp [sumL]
                have := HA2.out
                have := HACC.out
                omega
              have hw1 : IntKind.i64.wrap ((acc2 : Int) + (flen s.files f : Int)) = (acc2 : Int) + (flen s.files f : Int) := IntWalk.i64_in _ (by omega)
              have HA3 : Hid (acc2 + flen s.files f = acc + sumL s.files (newOf (s.opn.take (j + 1)))) := hid (by
                rw [HN2.out, sumL_append]
                have e2 : sumL s.files [f] = flen s.files f := by simp [sumL]
                have := HA2.out
                omega)
              clear hne hfile hb hfl hbound
              generalize c.frm = nf at *
              generalize c.to = nt at *
              have hnb := heap_alloc_new wr (.cells #[vN nf, vN nt, bp (x.bk f)] 93 (0, 0))
              have HNB := hid hnb
              clear hnb
              go_wp2_with fail
              refine (dcre_any _ nf nt (bp (x.bk f)) rfl).mono ?_
              rintro e w5 ⟨rfl, E5⟩
              have HE5 : Hid (Ext wb w5) := hid ((HE2.out.trans (Ext.alloc _ _)).trans E5)
              rw [HB.out]
              obtain ⟨q0, q1, q2, -⟩ := lk3 (E5.obj HNB.out)
              obtain ⟨ao, cap, hblk, -, -⟩ := (H2.out.ext HE5.out).file HFL.out
              obtain ⟨r0, -, -⟩ := lk2 hblk
              clear E5 m0 m1 m2 hblk
              generalize flen s.files f = fl at *
              generalize x.bk f = bf at *
              go_wp2
              go_roundw
              case rel => exact ⟨j + 1, acc2 + fl, by omega, by go_num, by go_num, HA3, HE5⟩
              case measure => simp [intOf]; omega
        · obtain rfl : j = s.opn.length := by omega
          have hi1 : decide ((s.opn.length : Int) < s.opn.length) = false := by simp
          have HFIN : Hid (acc2 = held s) := hid (by
            have a1 := HA2.out
            rw [List.take_length] at a1
            unfold held cntd
            rw [sumL_append, a1, HACC.out])
          go_wp2
          go_ret
          refine ⟨?_, HE.out.trans HE2.out⟩
          rw [← HFIN.out]; rfl
    · intro n b w' cnt' k1 k2 k3 k4 k5 k6 k7
      obtain ⟨f, hf, rfl⟩ := hb_mem k1
      have hfl : f < s.files.length := (H.out.gd.snm (HSUB.out _ hf)).2
      have hE2 : Ext w w' := Below.trans HE.out (k6.below (by simp; have := HR.out; omega) HE.out.size)
      obtain ⟨ao, cap, hblk, -, -⟩ := (H.out.ext hE2).file hfl
      obtain ⟨c0, -, -⟩ := lk2 hblk
      have hst := sum_strike s.files n f d HDN.out hf
      have hle : acc + flen s.files f ≤ 1048576 := by
        have a1 := HSUM.out
        have a2 := H.out.gd.hd
        have a3 := H.out.gd.rm
        unfold held cntd at a2
        rw [sumL_append] at a2
        omega
      have hw1 : IntKind.i64.wrap ((acc : Int) + (flen s.files f : Int)) = (acc : Int) + (flen s.files f : Int) := IntWalk.i64_in _ (by omega)
      have HS2 : Hid (acc + flen s.files f + sumL s.files ((noN d n).map Prod.snd) = sumL s.files (s.sure.map Prod.snd)) := hid (by have := HSUM.out; omega)
      have HRG2 : Hid (RNG w' x.ms r (x.hb s.sure) (x.hb (noN d n)) cnt') := hid (by rw [← hb_noN]; exact k4)
      have HE2 := hid hE2
      have HK5 : Hid (w'.rangeLeft x.ms r < wr.rangeLeft x.ms r) := hid (by rw [k4.left, HRG.out.left]; exact k5)
      clear hblk hst hle k1 k2 k3 k4 k5 k6 hE2 hf
      generalize flen s.files f = fl at *
      go_wp2
      go_roundw
      case rel => exact ⟨noN d n, cnt', acc + fl, by go_num, HRG2, HS2, hid fun z hz => HSUB.out z (noN_mem.1 hz).1, hid ((List.filter_sublist.map Prod.fst).nodup HDN.out), HE2⟩
      case measure => exact HK5.out
end Go.Proofs.YtijpokajhjhllaaGreatDoor

set_option linter.unusedSimpArgs false
set_option linter.unusedVariables false
namespace Go.Proofs.YtijpokajhjhllaaGreatDoor
open Go Go.RowKit Go.Tum Go.ChangeMaps
open Go.ParB (upd Lof)
open Go.ParE (putS slotsR slots Closed)

def DX.setV (x : DX) (f : Nat) (v : Value) : DX := { x with bl := x.bl.set f (x.bk f, v) }
theorem setV_bk {x : DX} {f i : Nat} {v : Value} : (x.setV f v).bk i = x.bk i := by
  unfold DX.setV DX.bk
  simp only [List.getD_eq_getElem?_getD, List.getElem?_set]
  split
  · rename_i e
    subst e
    split
    · rfl
    · rename_i h
      rw [List.getElem?_eq_none (by omega)]
  · rfl
theorem setV_sv {x : DX} {f i : Nat} {v : Value} (h : f < x.bl.length) : (x.setV f v).sv i = if i = f then v else x.sv i := by
  unfold DX.setV DX.sv
  simp only [List.getD_eq_getElem?_getD, List.getElem?_set]
  by_cases e : i = f
  · subst e; simp [h]
  · rw [if_neg (Ne.symm e), if_neg e]
theorem setV_hb {x : DX} {f : Nat} {v : Value} (d : Dir) : (x.setV f v).hb d = x.hb d := by
  unfold DX.hb
  refine List.map_congr_left fun z _ => ?_
  rw [setV_bk]
theorem setV_cc {x : DX} {f : Nat} {v : Value} (l : List Chg) : l.flatMap (x.setV f v).cc = l.flatMap x.cc := by
  induction l with
  | nil => rfl
  | cons c r ih =>
    rw [List.flatMap_cons, List.flatMap_cons, ih]
    congr 1
    unfold DX.cc
    cases c.file with
    | none => rfl
    | some g => simp only [Option.map_some]; rw [setV_bk]
theorem setV_fst {x : DX} {f : Nat} {v : Value} (h : f < x.bl.length) : (x.setV f v).bl.map Prod.fst = x.bl.map Prod.fst := by
  refine List.ext_getElem (by simp [DX.setV]) fun i h1 h2 => ?_
  simp only [DX.setV, List.getElem_map, List.getElem_set]
  split
  · rename_i e; subst e
    simp [DX.bk, List.getD_eq_getElem?_getD, h]
  · rfl
theorem oB_lt {w : World} {b e s n : Nat} {v : Value} {xs : List Value} (h : w.ownsRow b e s v n xs) : ∀ q ∈ oB v, q < w.heap.size := by
  intro q hm
  rcases h.2 with ⟨hv, -⟩ | ⟨g, cap, cur, hv, hb, hgg, rest⟩
  · rw [hv] at hm; simp [oB, Value.ownBlock] at hm
  · rw [hv] at hm
    simp [oB, Value.ownBlock] at hm
    subst hm; exact (Array.getElem?_eq_some_iff.1 hgg).1
theorem oB_iff {v : Value} {q : Nat} : q ∈ oB v ↔ v.ownBlock = some q := by
  unfold oB
  cases h : v.ownBlock <;> simp [eq_comm]
section
variable {B : Nat} {w w' : World} {p : Nat} {x : DX} {s s' : PS}
theorem Dk.fileSet (h : Dk B w p x s) {f : Nat} (hf : f < s.files.length) (v : Value) (bs : List UInt8) (n : Nat) (hb : w'.heap[x.bk f]? = some (fileO v n)) (ho : Own w' B 5 v bs) (F : Fr (x.bk f :: oB (x.sv f)) w w')
    (hn : ∀ q ∈ oB v, q ∈ oB (x.sv f) ∨ w.heap.size ≤ q) (hs : s'.room = s.room ∧ s'.sure = s.sure ∧ s'.opn = s.opn ∧ s'.fuse = s.fuse ∧ s'.down = s.down) (hl : s'.files.length = s.files.length)
    (hof : ∀ i (h1 : i < s'.files.length) (h2 : i < s.files.length), s'.files[i] = if i = f then (bs, n) else s.files[i]) (hg : Gd s') : Dk B w' p (x.setV f v) s' := by
  obtain ⟨r, fl, su, o, fu, dn⟩ := s
  obtain ⟨r', fl', su', o', fu', dn'⟩ := s'
  obtain ⟨rfl, rfl, rfl, rfl, rfl⟩ := hs
  simp only at hf hl hof
  have hfx : f < x.bl.length := by rw [h.fn]; exact hf
  have hpS : p ∉ x.bk f :: oB (x.sv f) := by
    simp only [List.mem_cons, not_or]
    exact ⟨h.p_bk hf, row_no (h.fi f hf).2 h.hd (by intro cs e; simp at e)⟩
  have hmap : ∀ m, (∃ es ck, w.heap[m]? = some (.map es ck)) → m ∉ x.bk f :: oB (x.sv f) := by
    rintro m ⟨es, ck, hm⟩
    simp only [List.mem_cons, not_or]
    refine ⟨fun e => ?_, row_no (h.fi f hf).2 hm (by intro cs e; cases e)⟩
    have := (h.fi f hf).1
    rw [← e, hm] at this; cases this
  refine ⟨(F.block p (Array.getElem?_eq_some_iff.1 h.hd).1 hpS).trans h.hd, ?_, ?_, ?_, ?_, fun i hi => ?_, ?_, fun i j hi hj hij g hg2 => ?_, h.ne, ⟨h.lo.1, h.lo.2.1, h.lo.2.2.1, fun i hi => by rw [setV_bk]; exact h.lo.2.2.2 i (by rw [← hl]; exact hi)⟩, hg⟩
  · show PM w' x.md ((x.setV f v).hb _)
    rw [setV_hb]; exact h.dr.fr F (hmap _ h.dr.block)
  · show PM w' x.ms ((x.setV f v).hb _)
    rw [setV_hb]; exact h.sr.fr F (hmap _ h.sr.block)
  · show w'.ownsRow B 93 3 x.vo _ (List.flatMap (x.setV f v).cc _)
    rw [setV_cc]
    refine ownsRow_fr h.op F fun q hq hq2 => ?_
    rcases List.mem_cons.1 hq2 with rfl | hq2
    · exact h.bk_op hf hq
    · exact row_far h.op (h.fi f hf).2 (by decide) q hq hq2
  · show ((x.setV f v).bl).length = fl'.length
    rw [hl, ← h.fn]; simp [DX.setV]
  · have hi2 : i < fl.length := by rw [← hl]; exact hi
    rw [setV_bk, setV_sv hfx, hof i hi hi2]
    by_cases e : i = f
    · subst e
      rw [if_pos rfl, if_pos rfl]
      exact ⟨hb, ho⟩
    · rw [if_neg e, if_neg e]
      obtain ⟨a, b⟩ := h.fi i hi2
      refine ⟨(F.block _ (Array.getElem?_eq_some_iff.1 a).1 ?_).trans a, ownsRow_fr b F fun q hq hq2 => ?_⟩
      · simp only [List.mem_cons, not_or]
        exact ⟨h.bk_ne hi2 hf e, row_no (h.fi f hf).2 a (by intro cs e; simp at e)⟩
      · rcases List.mem_cons.1 hq2 with rfl | hq2
        · exact row_no b (h.fi f hf).1 (by intro cs e; simp at e) hq
        · exact h.od i f hi2 hf e q (oB_iff.1 hq) (oB_iff.1 hq2)
  · show ((x.setV f v).bl.map Prod.fst).Nodup
    rw [setV_fst hfx]; exact h.fd
  · have hi2 : i < fl.length := by rw [← hl]; exact hi
    have hj2 : j < fl.length := by rw [← hl]; exact hj
    rw [setV_sv hfx] at hg2 ⊢
    by_cases e1 : i = f
    · have e2 : j ≠ f := fun e => hij (e1.trans e.symm)
      rw [if_pos e1] at hg2
      rw [if_neg e2]
      intro hj3
      rcases hn g (oB_iff.2 hg2) with h1 | h1
      · exact h.od f j hf hj2 (Ne.symm e2) g (oB_iff.1 h1) hj3
      · have := oB_lt (h.fi j hj2).2 g (oB_iff.2 hj3); omega
    · rw [if_neg e1] at hg2
      by_cases e2 : j = f
      · rw [if_pos e2]
        intro hj3
        rcases hn g (oB_iff.2 hj3) with h1 | h1
        · exact h.od i f hi2 hf e1 g hg2 (oB_iff.1 h1)
        · have := oB_lt (h.fi i hi2).2 g (oB_iff.2 hg2); omega
      · rw [if_neg e2]
        exact h.od i j hi2 hj2 hij g hg2
theorem setV_blk {f : Nat} {v : Value} (hfx : f < x.bl.length) (hn : ∀ q ∈ oB v, q ∈ oB (x.sv f) ∨ w.heap.size ≤ q) : ∀ q ∈ (x.setV f v).blk p, q ∈ x.blk p ∨ w.heap.size ≤ q := by
  intro q hq
  have hfst := setV_fst (v := v) hfx
  simp only [DX.blk, List.mem_cons, List.mem_append, hfst] at hq ⊢
  rcases hq with h | h | h | (h | h) | h
  · exact .inl (.inl h)
  · exact .inl (.inr (.inl h))
  · exact .inl (.inr (.inr (.inl h)))
  · exact .inl (.inr (.inr (.inr (.inl (.inl h)))))
  · exact .inl (.inr (.inr (.inr (.inl (.inr h)))))
  · obtain ⟨z, hz, hq2⟩ := List.mem_flatMap.1 h
    have hz2 : z ∈ x.bl.set f (x.bk f, v) := hz
    rcases List.mem_or_eq_of_mem_set hz2 with h1 | h1
    · exact .inl (.inr (.inr (.inr (.inr (List.mem_flatMap.2 ⟨z, h1, hq2⟩)))))
    · subst h1
      rcases hn q hq2 with h3 | h3
      · exact .inl (.inr (.inr (.inr (.inr (List.mem_flatMap.2 ⟨_, getD_mem hfx, h3⟩)))))
      · exact .inr h3
theorem Stp.file (h : Dk B w p x s) {f : Nat} (hf : f < s.files.length) (v : Value) (hd : Dk B w' p (x.setV f v) s') (F : Fr (x.bk f :: oB (x.sv f)) w w') (hn : ∀ q ∈ oB v, q ∈ oB (x.sv f) ∨ w.heap.size ≤ q) (hB : B ≤ w.heap.size) : Stp B w p x s' w' := by
  have hfx : f < x.bl.length := by rw [h.fn]; exact hf
  refine ⟨_, hd, F.mono fun q hq => ?_, F.below (fun q hq => ?_) hB, setV_blk hfx hn⟩
  · simp only [DX.blk, List.mem_cons, List.mem_append] at hq ⊢
    rcases hq with rfl | hq
    · exact .inr (.inr (.inr (.inl (.inr (h.bk_mem hf)))))
    · exact .inr (.inr (.inr (.inr (List.mem_flatMap.2 ⟨_, getD_mem hfx, hq⟩))))
  · rcases List.mem_cons.1 hq with rfl | hq
    · exact h.lo.2.2.2 f hf
    · exact row_lo (h.fi f hf).2 q hq
end
end Go.Proofs.YtijpokajhjhllaaGreatDoor

set_option linter.unusedSimpArgs false
set_option linter.unusedVariables false
namespace Go.Proofs.YtijpokajhjhllaaGreatDoor
open Go Go.RowKit Go.Tum Go.ChangeMaps
open Go.ParB (upd Lof)
open Go.ParE (putS slotsR slots Closed)

theorem infoU8 : (Tryz.prog.info? 5).map (fun i => (i.zero, i.size, i.bytes)) = some (some (.int .u8 0), 1, 1) := by kernel_rfl
theorem Byt.frp {B : Nat} {w w' : World} {p : Nat} {x : DX} {s : PS} {u : Value} {b : List UInt8} (hb : Byt w u b) (h : Dk B w p x s) (f : Fr [p] w w') : Byt w' u b := by
  obtain ⟨hl, ao, cap, rfl, h3, h4, h5, h6⟩ := hb
  refine ⟨hl, ao, cap, rfl, h3, h4, h5, fun a ha j v hv => ?_⟩
  have hc := h6 a ha j v hv
  have hne : (a.add j).block ≠ p := by
    intro e
    have hblk := h.hd
    unfold World.cell? at hc
    rw [e, hblk] at hc
    obtain ⟨c, -, hcv⟩ := List.mem_map.1 (List.mem_of_getElem? hv)
    subst hcv
    simp only [Option.bind_some, bv] at hc
    revert hc
    generalize (a.add j).off = k
    intro hc
    match k with
    | 0 => simp at hc
    | 1 => simp at hc
    | 2 => simp at hc
    | 3 =>
      obtain ⟨ao, cap, e⟩ : ∃ ao cap, x.vo = .slice ao s.opn.length cap := row_shape h.op
      rw [e] at hc
      simp at hc
    | 4 => simp at hc
    | 5 => simp at hc
    | k + 6 => simp at hc
  exact (f.cell (by simpa using hne) (World.block_lt_of_cell? w _ hc)).trans hc
theorem enter51 (args : Array Value) (w : World) : Sem.run Tryz.prog (callFunc 64 args) w = .ok (.enter 64 args) w := enter_of Tryz.func64 (by kernel_rfl) (by kernel_rfl) args w
theorem enter52 (args : Array Value) (w : World) : Sem.run Tryz.prog (callFunc 65 args) w = .ok (.enter 65 args) w := enter_of Tryz.func65 (by kernel_rfl) (by kernel_rfl) args w
set_option maxRecDepth 100000 in
set_option maxHeartbeats 1000000 in
theorem app1_any {B : Nat} {w : World} {p : Nat} {x : DX} {s : PS} (n : Nm) (b : List UInt8) (u : Value) (hk : n.length ≤ maxLen) (h : Dk B w p x s) (bd bn bb : Nat) (hd : Bx w bd (pv p) 24) (hn : Bx w bn (vN n) 9) (hb : Bx w bb u 37) (hu : Byt w u b) :
    Calls Tryz.prog 64 #[bp bd, bp bn, bp bb] w fun e w' => e = .returned (.int .i64 (appE s n b : Nat)) ∧ Ext w w' := by
  obtain ⟨uo, ucap, rfl, hule, humx, -, -⟩ := hu.open
  have H := hid h
  have HD := hid hd
  have HN := hid hn
  have HBB := hid hb
  have cn := hn.cell
  have cd := hd.cell
  obtain ⟨⟨-, d1, -⟩, -⟩ := lk6 h.hd
  have hlk := look_fact h n hk
  clear h hd hn hb hu
  cases hf : look s.dir n with
  | none =>
    have HC : Hid (appE s n b = 5) := hid (by unfold appE; rw [if_pos hf])
    rw [hf] at hlk
    simp only [Option.map_none, ptr] at hlk
    clear hf
    go_enter Tryz.func64, Tryz.ntmps64
    go_wp2_with fail
    go_quiet (fail)
    clear hlk d1
    go_wp2
    go_ret
    rw [HC.out]
    exact ⟨rfl, Ext.drewN _ _⟩
  | some f =>
    have HF := hid hf
    rw [hf] at hlk
    simp only [Option.map_some, ptr] at hlk
    clear hf
    generalize x.bk f = bf at *
    go_enter Tryz.func64, Tryz.ntmps64
    go_wp2_with fail
    go_quiet (fail)
    clear hlk d1 cd cn
    obtain ⟨w2, hw2⟩ : ∃ w2, w.drewN nq = w2 := ⟨_, rfl⟩
    have E2 : Ext w w2 := by rw [← hw2]; exact Ext.drewN _ _
    rw [hw2]
    clear hw2
    have H2 := hid (H.out.ext E2)
    have HE2 := hid E2
    have CD := hid (HD.out.ext E2).cell
    have CB := hid (HBB.out.ext E2).cell
    have CP := hid (lk6 H2.out.hd).1.1
    have hrm := H2.out.gd.rm
    have hhd := H2.out.gd.hd
    have hw1 : IntKind.i64.wrap ((s.room : Int) - (held s : Int)) = (s.room : Int) - (held s : Int) := IntWalk.i64_in _ (by omega)
    obtain ⟨BB, hBB⟩ : ∃ BB, decide ((s.room : Int) - (held s : Int) < (b.length : Int)) = BB := ⟨_, rfl⟩
    have HBD := hid hBB
    clear E2 hrm hhd
    go_wp2_with fail
    refine Par.wp_region_par (l := [_, _, _, _, _, _, _, _, _, _, _]) rfl Ext (Par.VL [Par.EQ (Value.slice uo b.length ucap), Par.EQ (Value.int IntKind.i64 (b.length : Nat)), Par.EQ (pv p), Par.EQ (pv p), Par.EQ (pv p), Par.EQ (Value.int IntKind.i64 (s.room : Nat)), Par.EQ (pv p), Par.EQ (Value.int IntKind.i64 (held s : Nat)), Par.EQ (Value.int IntKind.i64 ((s.room : Int) - (held s : Int))), Par.EQ (Value.bool BB), Par.EQ (Value.bool BB)]) (by kernel_rfl) Ext.refl (fun _ _ _ h1 h2 => Ext.trans h1 h2) (Ext.draw _) (Par.VL_stab ?_) ?_ ?_
    · simp only [List.forall_mem_cons, List.not_mem_nil, false_implies, implies_true, and_true]
      refine ⟨fun _ _ _ _ h => h, fun _ _ _ _ h => h, fun _ _ _ _ h => h, fun _ _ _ _ h => h, fun _ _ _ _ h => h, fun _ _ _ _ h => h, fun _ _ _ _ h => h, fun _ _ _ _ h => h, fun _ _ _ _ h => h, fun _ _ _ _ h => h, fun _ _ _ _ h => h⟩
    · refine ⟨⟨fun _ _ => trivial, fun ρ w' hX hG hk => ?_⟩, ?_⟩
      · obtain ⟨k0, -⟩ := hk
        have e0 : ρ (.tmp 2) = bp bb := k0
        clear k0
        refine Par.val_k fun K hK => ?_
        unfold Par.val
        (have cc := hX.cell CB.out; go_simp; exact hK _ _ ⟨Ext.refl _, rfl⟩)
      refine ⟨⟨fun _ _ => trivial, fun ρ w' hX hG hk => ?_⟩, ?_⟩
      · obtain ⟨k0, -⟩ := hk
        have e0 : ρ (.tmp 13) = Value.slice uo b.length ucap := k0
        clear k0
        refine Par.val_k fun K hK => ?_
        unfold Par.val
        (go_simp; exact hK _ _ ⟨Ext.refl _, rfl⟩)
      refine ⟨⟨fun _ _ => trivial, fun ρ w' hX hG hk => ?_⟩, ?_⟩
      · obtain ⟨k0, -⟩ := hk
        have e0 : ρ (.tmp 0) = bp bd := k0
        clear k0
        refine Par.val_k fun K hK => ?_
        unfold Par.val
        (have cc := hX.cell CD.out; go_simp; exact hK _ _ ⟨Ext.refl _, rfl⟩)
      refine ⟨⟨fun _ _ => trivial, fun ρ w' hX hG hk => ?_⟩, ?_⟩
      · obtain ⟨k0, -⟩ := hk
        have e0 : ρ (.tmp 15) = pv p := k0
        clear k0
        refine Par.val_k fun K hK => ?_
        unfold Par.val
        (go_simp; exact hK _ _ ⟨Ext.refl _, rfl⟩)
      refine ⟨⟨fun _ _ => trivial, fun ρ w' hX hG hk => ?_⟩, ?_⟩
      · obtain ⟨k0, -⟩ := hk
        have e0 : ρ (.tmp 16) = pv p := k0
        clear k0
        refine Par.val_k fun K hK => ?_
        unfold Par.val
        (go_simp; exact hK _ _ ⟨Ext.refl _, rfl⟩)
      refine ⟨⟨fun _ _ => trivial, fun ρ w' hX hG hk => ?_⟩, ?_⟩
      · obtain ⟨k0, -⟩ := hk
        have e0 : ρ (.tmp 17) = pv p := k0
        clear k0
        refine Par.val_k fun K hK => ?_
        unfold Par.val
        (have cc := hX.cell CP.out; go_simp; exact hK _ _ ⟨Ext.refl _, rfl⟩)
      refine ⟨⟨fun _ _ => trivial, fun ρ w' hX hG hk => ?_⟩, ?_⟩
      · obtain ⟨k0, -⟩ := hk
        have e0 : ρ (.tmp 0) = bp bd := k0
        clear k0
        refine Par.val_k fun K hK => ?_
        unfold Par.val
        (have cc := hX.cell CD.out; go_simp; exact hK _ _ ⟨Ext.refl _, rfl⟩)
      refine ⟨⟨fun _ _ => trivial, fun ρ w' hX hG hk => ?_⟩, ?_⟩
      · obtain ⟨k0, k1, -⟩ := hk
        have e0 := k0
        have e1 : ρ (.tmp 19) = pv p := k1
        clear k0 k1
        refine Par.val_k fun K hK => ?_
        unfold Par.val
        refine Par.val_call Tryz.func30 (by kernel_rfl) rfl e0 ?_
        simp only [List.map_toArray, List.map_cons, List.map_nil, e1]
        refine (dheld_any (H2.out.ext hX)).mono ?_
        rintro e w2 ⟨rfl, hx2⟩
        exact ⟨_, rfl, hK _ _ ⟨hx2, rfl⟩⟩
      refine ⟨⟨fun _ _ => trivial, fun ρ w' hX hG hk => ?_⟩, ?_⟩
      · obtain ⟨k0, k1, -⟩ := hk
        have e0 : ρ (.tmp 18) = Value.int IntKind.i64 (s.room : Nat) := k0
        have e1 : ρ (.tmp 20) = Value.int IntKind.i64 (held s : Nat) := k1
        clear k0 k1
        refine Par.val_k fun K hK => ?_
        unfold Par.val
        (go_simp; exact hK _ _ ⟨Ext.refl _, rfl⟩)
      refine ⟨⟨fun _ _ => trivial, fun ρ w' hX hG hk => ?_⟩, ?_⟩
      · obtain ⟨k0, k1, -⟩ := hk
        have e0 : ρ (.tmp 14) = Value.int IntKind.i64 (b.length : Nat) := k0
        have e1 : ρ (.tmp 21) = Value.int IntKind.i64 ((s.room : Int) - (held s : Int)) := k1
        clear k0 k1
        refine Par.val_k fun K hK => ?_
        unfold Par.val
        (go_simp; exact hK _ _ ⟨Ext.refl _, rfl⟩)
      refine ⟨⟨fun _ _ => trivial, fun ρ w' hX hG hk => ?_⟩, ?_⟩
      · obtain ⟨k0, -⟩ := hk
        have e0 : ρ (.tmp 22) = Value.bool BB := k0
        clear k0
        refine Par.val_k fun K hK => ?_
        unfold Par.val
        (go_simp; exact hK _ _ ⟨Ext.refl _, rfl⟩)
      trivial
    intro a' w' inv
    have hX := inv.ext
    have q13 : a'.tmps.getD 13 undef = Value.slice uo b.length ucap := inv.done 0 _ 13 rfl rfl rfl
    have q14 : a'.tmps.getD 14 undef = Value.int IntKind.i64 (b.length : Nat) := inv.done 1 _ 14 rfl rfl rfl
    have q15 : a'.tmps.getD 15 undef = pv p := inv.done 2 _ 15 rfl rfl rfl
    have q16 : a'.tmps.getD 16 undef = pv p := inv.done 3 _ 16 rfl rfl rfl
    have q17 : a'.tmps.getD 17 undef = pv p := inv.done 4 _ 17 rfl rfl rfl
    have q18 : a'.tmps.getD 18 undef = Value.int IntKind.i64 (s.room : Nat) := inv.done 5 _ 18 rfl rfl rfl
    have q19 : a'.tmps.getD 19 undef = pv p := inv.done 6 _ 19 rfl rfl rfl
    have q20 : a'.tmps.getD 20 undef = Value.int IntKind.i64 (held s : Nat) := inv.done 7 _ 20 rfl rfl rfl
    have q21 : a'.tmps.getD 21 undef = Value.int IntKind.i64 ((s.room : Int) - (held s : Int)) := inv.done 8 _ 21 rfl rfl rfl
    have q22 : a'.tmps.getD 22 undef = Value.bool BB := inv.done 9 _ 22 rfl rfl rfl
    have q12 : a'.tmps.getD 12 undef = Value.bool BB := inv.done 10 _ 12 rfl rfl rfl
    clear inv
    simp only [List.filterMap_cons, List.filterMap_nil, Par.putAll, Act.put, List.setIfInBounds_toArray, List.set_cons_succ, List.set_cons_zero, q13, q14, q15, q16, q17, q18, q19, q20, q21, q22, q12]
    clear q13 q14 q15 q16 q17 q18 q19 q20 q21 q22 q12
    clear a'
    have HX := hid hX
    clear hX hBB hw1
    by_cases hov : s.room < held s + b.length
    · have HC : Hid (appE s n b = 4) := hid (by unfold appE; rw [if_neg (by rw [HF.out]; simp), if_pos hov])
      have hbt : BB = true := by rw [← HBD.out, decide_eq_true_eq]; omega
      subst hbt
      clear hov
      go_wp2
      go_ret
      rw [HC.out]
      exact ⟨rfl, HE2.out.trans HX.out⟩
    · have HC : Hid (appE s n b = 0) := hid (by unfold appE; rw [if_neg (by rw [HF.out]; simp), if_neg hov])
      have hbt : BB = false := by rw [← HBD.out, decide_eq_false_iff_not]; omega
      subst hbt
      clear hov
      go_wp2
      go_ret
      rw [HC.out]
      exact ⟨rfl, HE2.out.trans HX.out⟩
end Go.Proofs.YtijpokajhjhllaaGreatDoor

set_option linter.unusedSimpArgs false
set_option linter.unusedVariables false
namespace Go.Proofs.YtijpokajhjhllaaGreatDoor
open Go Go.RowKit Go.Tum Go.ChangeMaps
open Go.ParB (upd Lof)
open Go.ParE (putS slotsR slots Closed)

theorem run_app_u8 (base ty : Nat) {w : World} {v u : Value} {l1 l2 : List UInt8} (hown : Own w base 5 v l1) (hsl : Byt w u l2) (hb : l1.length + l2.length ≤ 140737488355328) (hbase : base ≤ w.heap.size) :
    ∃ v' w', (Builtin.append_ #[37, 37] ty #[v, u]).run Tryz.prog w = .ok v' w' ∧ Own w' base 5 v' (l1 ++ l2) ∧ Fr (oB v) w w' ∧ ∀ q ∈ oB v', q ∈ oB v ∨ w.heap.size ≤ q := by
  obtain ⟨i, hi1, hz, hs, hby⟩ := info_parts infoU8
  obtain ⟨hl, ao, cap, rfl, h3, h4, h5, h6⟩ := hsl
  cases ao with
  | none =>
    have hcap := h5 rfl
    subst hcap
    have h0 : l2.length = 0 := by omega
    obtain rfl : l2 = [] := List.length_eq_zero_iff.1 h0
    have hr := run_append_owned_none (P := Tryz.prog) w base 37 ty 5 i 1 Tryz.underlying37 hi1 v l1.length _ hown
    exact ⟨v, w, hr, by rw [List.append_nil]; exact hown, Fr.refl _ _, fun q hq => .inl hq⟩
  | some a =>
    obtain ⟨v', w', r1, r2, r3, -, r5⟩ := run_append_own_at (P := Tryz.prog) w base 37 ty 5 i _ 1 1 Tryz.underlying37 hi1 hz hs hby rfl (by decide) v l1.length _ hown a l2.length cap _ hl (fun j u hu => h6 a rfl j u hu) (bv_one _) (by simp [maxLen]; omega) (by omega) hbase
    have hb := below_grown hown hbase r3
    exact ⟨v', w', r1, by unfold Own; simpa using r2, fr_grown r3 hb, oB_at r5⟩
theorem modify_at {fs : List (List UInt8 × Nat)} {f : Nat} {g : List UInt8 × Nat → List UInt8 × Nat} {i : Nat} (h1 : i < (fs.modify f g).length) (h2 : i < fs.length) : (fs.modify f g)[i] = if i = f then g (fs.getD f ([], 0)) else fs[i] := by
  rw [List.getElem_modify]
  by_cases e : f = i
  · subst e
    rw [if_pos rfl, if_pos rfl, List.getD_eq_getElem?_getD, List.getElem?_eq_getElem h2]; rfl
  · rw [if_neg e, if_neg (Ne.symm e)]
/-- What a file's act leaves. -/
def FilS (s : PS) (f : Nat) (g : List UInt8 × Nat → List UInt8 × Nat) : PS := { s with files := s.files.modify f g }
theorem Stp.mod {B : Nat} {w w' : World} {p : Nat} {x : DX} {s : PS} {f : Nat} {g : List UInt8 × Nat → List UInt8 × Nat} (h : Dk B w p x s) (hf : f < s.files.length) (hg : Gd (FilS s f g)) (v : Value) (hb : w'.heap[x.bk f]? = some (fileO v (g (s.files.getD f ([], 0))).2))
    (ho : Own w' B 5 v (g (s.files.getD f ([], 0))).1) (F : Fr (x.bk f :: oB (x.sv f)) w w') (hn : ∀ q ∈ oB v, q ∈ oB (x.sv f) ∨ w.heap.size ≤ q) (hB : B ≤ w.heap.size) : Stp B w p x (FilS s f g) w' :=
  Stp.file h hf v (h.fileSet hf v _ _ hb ho F hn ⟨rfl, rfl, rfl, rfl, rfl⟩ (by simp [FilS]) (fun i h1 h2 => modify_at h1 h2) hg) F hn hB
theorem Stp.pre {B : Nat} {w w1 w2 : World} {p : Nat} {x : DX} {s2 : PS} (k : Ext w w1) (hB : B ≤ w.heap.size) (h : Stp B w1 p x s2 w2) : Stp B w p x s2 w2 := by
  obtain ⟨x', d, f, b, q⟩ := h
  refine ⟨x', d, (Ext.fr k).trans f, (k.mono hB).trans b, fun y hy => ?_⟩
  rcases q y hy with h2 | h2
  · exact .inl h2
  · exact .inr (Nat.le_trans k.size h2)
theorem box_set2 {w : World} {b : Nat} {v0 v1 : Value} {ty : TypeId} (h : w.heap[b]? = some (.cells #[v0, v1] ty (0, 0))) (u : Value) : (w.setCell ⟨b, 0, none⟩ u).heap[b]? = some (.cells #[u, v1] ty (0, 0)) := block_set6 h 0 u
theorem box_set21 {w : World} {b : Nat} {v0 v1 : Value} {ty : TypeId} (h : w.heap[b]? = some (.cells #[v0, v1] ty (0, 0))) (u : Value) : (w.setCell ⟨b, 1, none⟩ u).heap[b]? = some (.cells #[v0, u] ty (0, 0)) := block_set6 h 1 u
/-- The file's bytes are stored. -/
theorem byt_stored {B bf m : Nat} {W w : World} {v0 v : Value} {l : List UInt8} {S : List Nat} (hb : w.heap[bf]? = some (fileO v0 m)) (ho : Own w B 5 v l) (F : Fr S W w) : (w.setCell ⟨bf, 0, none⟩ v).heap[bf]? = some (fileO v m) ∧ Own (w.setCell ⟨bf, 0, none⟩ v) B 5 v l ∧ Fr (bf :: S) W (w.setCell ⟨bf, 0, none⟩ v) := by
  refine ⟨box_set2 hb v, ownsRow_fr (S := [bf]) ho (fr_setCell _ _ _ (by simp)) (fun q hq hq2 => ?_), (F.mono (by intro q hq; simp [hq])).trans (fr_setCell _ _ _ (by simp))⟩
  obtain rfl : q = bf := by simpa using hq2
  exact row_no ho hb (by intro cs e; simp at e) hq
set_option maxRecDepth 100000 in
set_option maxHeartbeats 1000000 in
theorem app2_any {B : Nat} {w : World} {p : Nat} {x : DX} {s : PS} (n : Nm) (b : List UInt8) (u : Value) (hk : n.length ≤ maxLen) (h : Dk B w p x s) (bd bn bb : Nat) (hd : Bx w bd (pv p) 24) (hn : Bx w bn (vN n) 9) (hb : Bx w bb u 37) (hu : Byt w u b) (hB : B ≤ w.heap.size)
    (f : Nat) (hf : look s.dir n = some f) (hg : Gd (FilS s f fun y => (y.1 ++ b, y.2))) (hbl : b.length ≤ 1048576) :
    Calls Tryz.prog 65 #[bp bd, bp bn, bp bb] w fun e w' => (∃ u, e = .returned u) ∧ Stp B w p x (FilS s f fun y => (y.1 ++ b, y.2)) w' := by
  obtain ⟨uo, ucap, hue, hule, humx, -, -⟩ := hu.open
  have hfl : f < s.files.length := (h.gd.dnm (look_mem hf)).2
  have H := hid h
  have HBB := hid hb
  have HU := hid hu
  have HG := hid hg
  have HB := hid hB
  have cn := hn.cell
  have cd := hd.cell
  obtain ⟨⟨-, d1, -⟩, -⟩ := lk6 h.hd
  have hlk := look_fact h n hk
  rw [hf] at hlk
  simp only [Option.map_some, ptr] at hlk
  have HFL := hid hfl
  have HUE := hid hue
  clear h hd hn hb hu hg hf hfl hB hue
  go_enter Tryz.func65, Tryz.ntmps65
  go_wp2_with fail
  go_quiet (fail)
  clear hlk d1 cd cn
  obtain ⟨W, hW⟩ : ∃ W, w.drewN nq = W := ⟨_, rfl⟩
  have E1 : Ext w W := by rw [← hW]; exact Ext.drewN _ _
  rw [hW]
  clear hW
  have H1 := hid (H.out.ext E1)
  have HE1 := hid E1
  have CB := hid (HBB.out.ext E1).cell
  rw [HUE.out] at CB
  obtain ⟨fo, fc, hblk, hsv, hown⟩ := H1.out.file HFL.out
  have C0 := hid (lk2 hblk).1
  have HBLK := hid hblk
  have HOWN := hid hown
  have HSV := hid hsv
  have hfb := (H.out.gd.fl (s.files.getD f ([], 0)) (getD_mem HFL.out)).2
  have HBW : Hid (B ≤ W.heap.size) := hid (Nat.le_trans HB.out E1.size)
  obtain ⟨bf, hbf⟩ : ∃ bf, x.bk f = bf := ⟨_, rfl⟩
  have HBF := hid hbf
  obtain ⟨l0, hl0⟩ : ∃ l0, (s.files.getD f ([], 0)).1 = l0 := ⟨_, rfl⟩
  have HL0 := hid hl0
  obtain ⟨m0, hm0⟩ : ∃ m0, (s.files.getD f ([], 0)).2 = m0 := ⟨_, rfl⟩
  have HM0 := hid hm0
  obtain ⟨fl, hfle⟩ : ∃ fl, flen s.files f = fl := ⟨_, rfl⟩
  rw [hbf] at C0 HBLK ⊢
  rw [hfle] at C0 HBLK HOWN HSV
  rw [hl0] at HOWN hfb
  rw [hm0] at HBLK
  have HFB := hid hfb
  clear E1 hblk hown hsv hbf hl0 hm0 hfle hfb
  go_wp2_with fail
  refine ParE.wp_region_e (l := [_, _, _, _, _, _, _, _, _, _]) rfl (Rg.R2 W 6 16 9 (fun v w' => Own w' B 5 v (l0 ++ b) ∧ Fr (oB (.slice fo fl fc)) W w' ∧ ∀ q ∈ oB v, q ∈ oB (.slice fo fl fc) ∨ W.heap.size ≤ q) (fun w' => ∃ v, w'.heap[bf]? = some (fileO v m0) ∧ Own w' B 5 v (l0 ++ b) ∧ Fr (bf :: oB (.slice fo fl fc)) W w' ∧ ∀ q ∈ oB v, q ∈ oB (.slice fo fl fc) ∨ W.heap.size ≤ q)) (ParC.VC [ParC.EQ (bp bf), ParC.EQ (bp bf), ParC.EQ (bp bf), ParC.EQ (bp bf), ParC.EQ (Value.slice fo fl fc), ParC.EQ (Value.slice uo b.length ucap), (fun _ => True), ParC.EQ (bp bf), ParC.EQ (bp bf), fun _ => True]) (by kernel_rfl) (by kernel_rfl) (Rg.R2.start) ?_ ?_
  · refine ⟨fun L ρ w' hR hC hL hd hk => ?_, ?_⟩
    · exact Par.val_of_run rfl ⟨hR.other (by decide), hk.1⟩
    refine ⟨fun L ρ w' hR hC hL hd hk => ?_, ?_⟩
    · exact Par.val_of_run rfl ⟨hR.other (by decide), hk.1⟩
    refine ⟨fun L ρ w' hR hC hL hd hk => ?_, ?_⟩
    · obtain ⟨k0, -⟩ := hk
      have e0 : ρ (.tmp 11) = bp bf := k0
      clear k0
      refine Par.val_k fun K hK => ?_
      unfold Par.val
      (go_simp; exact hK _ _ ⟨hR.other (by decide), rfl⟩)
    refine ⟨fun L ρ w' hR hC hL hd hk => ?_, ?_⟩
    · obtain ⟨k0, -⟩ := hk
      have e0 : ρ (.tmp 12) = bp bf := k0
      clear k0
      refine Par.val_k fun K hK => ?_
      unfold Par.val
      (go_simp; exact hK _ _ ⟨hR.other (by decide), rfl⟩)
    refine ⟨fun L ρ w' hR hC hL hd hk => ?_, ?_⟩
    · obtain ⟨k0, -⟩ := hk
      have e0 : ρ (.tmp 13) = bp bf := k0
      clear k0
      refine Par.val_k fun K hK => ?_
      unfold Par.val
      (have hx := hR.a (hC.notyet 6 4 hL (by kernel_rfl)) (hC.notyet 9 4 hL (by kernel_rfl)); have cc := hx.cell C0.out; go_simp; exact hK _ _ ⟨hR.other (by decide), rfl⟩)
    refine ⟨fun L ρ w' hR hC hL hd hk => ?_, ?_⟩
    · obtain ⟨k0, -⟩ := hk
      have e0 : ρ (.tmp 2) = bp bb := k0
      clear k0
      refine Par.val_k fun K hK => ?_
      unfold Par.val
      (have hx := hR.a (hC.notyet 6 5 hL (by kernel_rfl)) (hC.notyet 9 5 hL (by kernel_rfl)); have cc := hx.cell CB.out; go_simp; exact hK _ _ ⟨hR.other (by decide), rfl⟩)
    refine ⟨fun L ρ w' hR hC hL hd hk => ?_, ?_⟩
    · obtain ⟨k0, k1, -⟩ := hk
      have e0 : ρ (.tmp 14) = Value.slice fo fl fc := k0
      have e1 : ρ (.tmp 15) = Value.slice uo b.length ucap := k1
      clear k0 k1
      refine Par.val_k fun K hK => ?_
      unfold Par.val
      (have n9 := hC.notyet 9 6 hL (by kernel_rfl); have hx := hR.a hL n9; have hby := HU.out.ext (HE1.out.trans hx); rw [HUE.out] at hby; obtain ⟨v', w2, r1, r2, r3, r4⟩ := run_app_u8 B 37 (HOWN.out.ext hx) hby (by have := HFB.out; omega) (Nat.le_trans HBW.out hx.size); rw [← e0, ← e1] at r1; exact Par.val_append r1 (hK _ _ ⟨Rg.R2.one (by decide) n9 ⟨r2, (Ext.fr hx).trans r3, fun q hq => (r4 q hq).imp id (fun h => Nat.le_trans hx.size h)⟩, trivial⟩))
    refine ⟨fun L ρ w' hR hC hL hd hk => ?_, ?_⟩
    · obtain ⟨k0, -⟩ := hk
      have e0 : ρ (.tmp 10) = bp bf := k0
      clear k0
      refine Par.val_k fun K hK => ?_
      unfold Par.val
      (go_simp; exact hK _ _ ⟨hR.other (by decide), rfl⟩)
    refine ⟨fun L ρ w' hR hC hL hd hk => ?_, ?_⟩
    · obtain ⟨k0, -⟩ := hk
      have e0 : ρ (.tmp 17) = bp bf := k0
      clear k0
      refine Par.val_k fun K hK => ?_
      unfold Par.val
      (go_simp; exact hK _ _ ⟨hR.other (by decide), rfl⟩)
    refine ⟨fun L ρ w' hR hC hL hd hk => ?_, ?_⟩
    · obtain ⟨k0, k1, -⟩ := hk
      have e0 : ρ (.tmp 18) = bp bf := k0
      have e1 : (fun _ => True) (ρ (.tmp 16))  := k1
      clear k0 k1
      refine Par.val_k fun K hK => ?_
      unfold Par.val
      (have h6 := hC.before 6 (i := 9) rfl hd (by kernel_rfl); obtain ⟨o1, o2, o3⟩ := hR.b h6 hL; have hnb : bf ∉ oB (.slice fo fl fc) := row_no HOWN.out HBLK.out (by intro cs e; simp at e); have hb2 := (o2.block bf (Array.getElem?_eq_some_iff.1 HBLK.out).1 hnb).trans HBLK.out; obtain ⟨cc, -, ff⟩ := lk2 hb2; obtain ⟨a3, c3, e3⟩ := row_shape o1; obtain ⟨n3, hn3⟩ : ∃ n, (l0 ++ b).length = n := ⟨_, rfl⟩; rw [hn3] at e3; have e4 : ρ (.tmp 16) = .slice a3 n3 c3 := e3; have o1' : Own w' B 5 (.slice a3 n3 c3) (l0 ++ b) := (by rw [← e3]; exact o1); have o3' : ∀ q ∈ oB (.slice a3 n3 c3), q ∈ oB (.slice fo fl fc) ∨ W.heap.size ≤ q := (by rw [← e3]; exact o3); obtain ⟨g1, g2, g3⟩ := byt_stored hb2 o1' o2; clear hn3; go_simp; exact hK _ _ ⟨Rg.R2.two ⟨_, g1, g2, g3, o3'⟩, trivial⟩)
    trivial
  intro a' w' inv hR
  have q10 : a'.tmps.getD 10 undef = bp bf := inv.done 0 _ 10 rfl rfl rfl
  have q11 : a'.tmps.getD 11 undef = bp bf := inv.done 1 _ 11 rfl rfl rfl
  have q12 : a'.tmps.getD 12 undef = bp bf := inv.done 2 _ 12 rfl rfl rfl
  have q13 : a'.tmps.getD 13 undef = bp bf := inv.done 3 _ 13 rfl rfl rfl
  have q14 : a'.tmps.getD 14 undef = Value.slice fo fl fc := inv.done 4 _ 14 rfl rfl rfl
  have q15 : a'.tmps.getD 15 undef = Value.slice uo b.length ucap := inv.done 5 _ 15 rfl rfl rfl
  have q16 : (fun _ => True) (a'.tmps.getD 16 undef)  := inv.done 6 _ 16 rfl rfl rfl
  have q17 : a'.tmps.getD 17 undef = bp bf := inv.done 7 _ 17 rfl rfl rfl
  have q18 : a'.tmps.getD 18 undef = bp bf := inv.done 8 _ 18 rfl rfl rfl
  clear inv
  simp only [List.filterMap_cons, List.filterMap_nil, Par.putAll, Act.put, List.setIfInBounds_toArray, List.set_cons_succ, List.set_cons_zero, q10, q11, q12, q13, q14, q15, q17, q18]
  clear q10 q11 q12 q13 q14 q15 q17 q18
  generalize a'.tmps.getD 16 undef = u16 at *
  try clear a'
  obtain ⟨v, g1, g2, g3, g4⟩ := hR.z rfl
  clear hR
  have HS : Hid (Stp B w p x (FilS s f fun y => (y.1 ++ b, y.2)) w') := hid (by
    refine Stp.pre HE1.out HB.out (Stp.mod H1.out HFL.out HG.out v ?_ ?_ ?_ ?_ HBW.out)
    · rw [HBF.out, HM0.out]; exact g1
    · rw [HL0.out]; exact g2
    · rw [HBF.out, HSV.out]; exact g3
    · rw [HSV.out]; exact g4)
  clear g1 g2 g3 g4
  go_wp2
  go_returns
  exact ⟨⟨_, rfl⟩, HS.out⟩
end Go.Proofs.YtijpokajhjhllaaGreatDoor

set_option linter.unusedSimpArgs false
set_option linter.unusedVariables false
namespace Go.Proofs.YtijpokajhjhllaaGreatDoor
open Go Go.RowKit Go.Tum Go.ChangeMaps
open Go.ParB (upd Lof)
open Go.ParE (putS slotsR slots Closed)
set_option maxHeartbeats 1000000 in
theorem dappend_any {B : Nat} {w : World} {p : Nat} {x : DX} {s : PS} (n : Nm) (b : List UInt8) (u : Value) (hk : n.length ≤ maxLen) (hu : Byt w u b) (hbl : b.length ≤ 1048576) (h : Dk B w p x s) (hB : B ≤ w.heap.size) (hg : Gd (appP s n b).2)  :
    Calls Tryz.prog 19 #[pv p, vN n, u] w fun e w' => DoR B w p x (appP s n b) e w' := by
  obtain ⟨uo, ucap, hue, -⟩ := hu.open
  have E0 : Ext w (w.alloc (.cells #[pv p] 24 (0, 0))) := Ext.alloc _ _
  have E1 : Ext w ((w.alloc (.cells #[pv p] 24 (0, 0))).alloc (.cells #[vN n] 9 (0, 0))) := E0.trans (Ext.alloc (w.alloc (.cells #[pv p] 24 (0, 0))) _)
  have E2 : Ext w (((w.alloc (.cells #[pv p] 24 (0, 0))).alloc (.cells #[vN n] 9 (0, 0))).alloc (.cells #[u] 37 (0, 0))) := E1.trans (Ext.alloc ((w.alloc (.cells #[pv p] 24 (0, 0))).alloc (.cells #[vN n] 9 (0, 0))) _)
  have b0 := ((Bx.new w (pv p) 24).ext (Ext.alloc (w.alloc (.cells #[pv p] 24 (0, 0))) (.cells #[vN n] 9 (0, 0)))).ext (Ext.alloc ((w.alloc (.cells #[pv p] 24 (0, 0))).alloc (.cells #[vN n] 9 (0, 0))) (.cells #[u] 37 (0, 0)))
  have b1 := (Bx.new (w.alloc (.cells #[pv p] 24 (0, 0))) (vN n) 9).ext (Ext.alloc ((w.alloc (.cells #[pv p] 24 (0, 0))).alloc (.cells #[vN n] 9 (0, 0))) (.cells #[u] 37 (0, 0)))
  simp only [World.size_alloc] at b1
  have b2 := Bx.new ((w.alloc (.cells #[pv p] 24 (0, 0))).alloc (.cells #[vN n] 9 (0, 0))) (u) 37
  simp only [World.size_alloc] at b2
  have HE := hid E2
  have H := hid (h.ext E2)
  have HG := hid hg
  have HU := hid (hu.ext E2)
  have HB := hid hB
  obtain ⟨W0, hW0⟩ : ∃ W0, (((w.alloc (.cells #[pv p] 24 (0, 0))).alloc (.cells #[vN n] 9 (0, 0))).alloc (.cells #[u] 37 (0, 0))) = W0 := ⟨_, rfl⟩
  rw [hW0] at HE H HU b0 b1 b2
  have HB0 := hid b0
  have HB1 := hid b1
  have HB2 := hid b2
  have c0 := b0.cell
  clear h hg E0 b0 E1 b1 E2 b2
  go_enter Tryz.func19, Tryz.ntmps19
  rw [← hW0] at c0
  go_wp2_with fail
  rw [← hue, hW0]
  clear hW0 c0
  obtain ⟨a, ha⟩ : ∃ a, w.heap.size = a := ⟨_, rfl⟩
  rw [ha] at HB0
  rw [ha] at HB1
  rw [ha] at HB2
  rw [ha]
  obtain ⟨bq, hbq⟩ : ∃ bq, a + 1 = bq := ⟨_, rfl⟩
  rw [hbq] at HB1
  rw [hbq] at HB2
  rw [hbq]
  obtain ⟨c, hc⟩ : ∃ c, bq + 1 = c := ⟨_, rfl⟩
  rw [hc] at HB2
  rw [hc]
  have n0 : a ≠ p := fun e => by have := HB0.out; rw [e] at this; have h2 := H.out.hd; unfold Bx at this; rw [this] at h2; simp at h2
  have n1 : bq ≠ p := fun e => by have := HB1.out; rw [e] at this; have h2 := H.out.hd; unfold Bx at this; rw [this] at h2; simp at h2
  have n2 : c ≠ p := fun e => by have := HB2.out; rw [e] at this; have h2 := H.out.hd; unfold Bx at this; rw [this] at h2; simp at h2
  refine (ddo_any H.out (Nat.le_trans HB.out HE.out.size) 64 65 #[bp a, bp bq, bp c] #[bp a, bp bq, bp c] enter51 enter52 (appE s n b) (fun s => { s with files := setF s.files (look s.dir n) fun x => (x.1 ++ b, x.2) })
    (fun _ w' k => app1_any n b u hk (H.out.ext k) a bq c (HB0.out.ext k) (HB1.out.ext k) (HB2.out.ext k) (HU.out.ext k))
    (fun h1 h2 h3 w' hD hF hbw => ?_)).mono ?_
  · have hdone := doP_done (act := (fun s => { s with files := setF s.files (look s.dir n) fun x => (x.1 ++ b, x.2) })) h1 h2 h3
    have hgd : Gd (((fun s => { s with files := setF s.files (look s.dir n) fun x => (x.1 ++ b, x.2) })) (fusS s)) := by have := HG.out; unfold appP at this; rw [hdone] at this; exact this
    have hB2 := Nat.le_trans (Nat.le_trans HB.out HE.out.size) hF.size
    have x0 := HB0.out.fr hF (by simpa using n0)
    have x1 := HB1.out.fr hF (by simpa using n1)
    have x2 := HB2.out.fr hF (by simpa using n2)
    obtain ⟨f, hf⟩ : ∃ f, look s.dir n = some f := by
      cases hq : look s.dir n with
      | some f => exact ⟨f, rfl⟩
      | none => exact absurd h2 (by unfold appE; rw [if_pos hq]; decide)
    have hact : ({ fusS s with files := setF (fusS s).files (look (fusS s).dir n) fun x => (x.1 ++ b, x.2) } : PS) = FilS (fusS s) f fun y => (y.1 ++ b, y.2) := by
      show ({ fusS s with files := setF s.files (look s.dir n) fun x => (x.1 ++ b, x.2) } : PS) = _
      rw [hf]; rfl
    have hgd2 : Gd (FilS (fusS s) f fun y => (y.1 ++ b, y.2)) := by rw [← hact]; exact hgd
    rw [hact]
    exact app2_any n b u hk hD a bq c x0 x1 x2 (Byt.frp HU.out H.out hF) hB2 f hf hgd2 hbl
  · rintro e w2 ⟨rfl, h2⟩
    have HS : Hid (DoR B w p x (appP s n b) _ w2) := hid (DoR.ext ⟨rfl, h2⟩ HE.out HB.out)
    clear h2
    go_wp2
    go_ret
    exact HS.out
end Go.Proofs.YtijpokajhjhllaaGreatDoor

set_option linter.unusedSimpArgs false
set_option linter.unusedVariables false
namespace Go.Proofs.YtijpokajhjhllaaGreatDoor
open Go Go.RowKit Go.Tum Go.ChangeMaps
open Go.ParB (upd Lof)
open Go.ParE (putS slotsR slots Closed)
theorem enSync1 (args : Array Value) (w : World) : Sem.run Tryz.prog (callFunc 66 args) w = .ok (.enter 66 args) w := enter_of Tryz.func66 (by kernel_rfl) (by kernel_rfl) args w
theorem enSync2 (args : Array Value) (w : World) : Sem.run Tryz.prog (callFunc 68 args) w = .ok (.enter 68 args) w := enter_of Tryz.func68 (by kernel_rfl) (by kernel_rfl) args w
theorem enDelete1 (args : Array Value) (w : World) : Sem.run Tryz.prog (callFunc 96 args) w = .ok (.enter 96 args) w := enter_of Tryz.func96 (by kernel_rfl) (by kernel_rfl) args w
theorem enDelete2 (args : Array Value) (w : World) : Sem.run Tryz.prog (callFunc 97 args) w = .ok (.enter 97 args) w := enter_of Tryz.func97 (by kernel_rfl) (by kernel_rfl) args w
theorem enRename1 (args : Array Value) (w : World) : Sem.run Tryz.prog (callFunc 78 args) w = .ok (.enter 78 args) w := enter_of Tryz.func78 (by kernel_rfl) (by kernel_rfl) args w
theorem enRename2 (args : Array Value) (w : World) : Sem.run Tryz.prog (callFunc 79 args) w = .ok (.enter 79 args) w := enter_of Tryz.func79 (by kernel_rfl) (by kernel_rfl) args w
theorem syn1_any {B : Nat} {w : World} {p : Nat} {x : DX} {s : PS} (n : Nm) (hk : n.length ≤ maxLen) (h : Dk B w p x s) (bd bn : Nat) (hd : Bx w bd (pv p) 24) (hn : Bx w bn (vN n) 9) :
    Calls Tryz.prog 66 #[bp bd, bp bn] w fun e w' => e = .returned (.int .i64 (missP s n : Nat)) ∧ Ext w w' := by
  have cn := hn.cell
  have cd := hd.cell
  have H := hid h
  clear h hd hn
  go_enter Tryz.func66, Tryz.ntmps66
  go_wp2_with fail
  refine (dmiss_any n hk H.out).mono ?_
  rintro e w1 ⟨rfl, rfl⟩
  go_wp2
  go_ret
  exact ⟨rfl, Ext.refl _⟩
theorem del1_any {B : Nat} {w : World} {p : Nat} {x : DX} {s : PS} (n : Nm) (hk : n.length ≤ maxLen) (h : Dk B w p x s) (bd bn : Nat) (hd : Bx w bd (pv p) 24) (hn : Bx w bn (vN n) 9) :
    Calls Tryz.prog 96 #[bp bd, bp bn] w fun e w' => e = .returned (.int .i64 (missP s n : Nat)) ∧ Ext w w' := by
  have cn := hn.cell
  have cd := hd.cell
  have H := hid h
  clear h hd hn
  go_enter Tryz.func96, Tryz.ntmps96
  go_wp2_with fail
  refine (dmiss_any n hk H.out).mono ?_
  rintro e w1 ⟨rfl, rfl⟩
  go_wp2
  go_ret
  exact ⟨rfl, Ext.refl _⟩
theorem miss_some {s : PS} {n : Nm} (h : missP s n = 0) : ∃ f, look s.dir n = some f := by
  unfold missP at h
  cases hq : look s.dir n with
  | some f => exact ⟨f, rfl⟩
  | none => rw [if_pos hq] at h; cases h
set_option maxHeartbeats 1000000 in
theorem syn2_any {B : Nat} {w : World} {p : Nat} {x : DX} {s : PS} (n : Nm) (hk : n.length ≤ maxLen) (h : Dk B w p x s) (bd bn : Nat) (hd : Bx w bd (pv p) 24) (hn : Bx w bn (vN n) 9) (hB : B ≤ w.heap.size)
    (f : Nat) (hf : look s.dir n = some f) (hg : Gd (FilS s f fun y => (y.1, y.1.length))) :
    Calls Tryz.prog 68 #[bp bd, bp bn] w fun e w' => (∃ u, e = .returned u) ∧ Stp B w p x (FilS s f fun y => (y.1, y.1.length)) w' := by
  have hfl : f < s.files.length := (h.gd.dnm (look_mem hf)).2
  have H := hid h
  have HG := hid hg
  have HB := hid hB
  have cn := hn.cell
  have cd := hd.cell
  obtain ⟨⟨-, d1, -⟩, -⟩ := lk6 h.hd
  have hlk := look_fact h n hk
  rw [hf] at hlk
  simp only [Option.map_some, ptr] at hlk
  have HFL := hid hfl
  clear h hd hn hg hf hfl hB
  go_enter Tryz.func68, Tryz.ntmps68
  go_wp2_with fail
  go_quiet (fail)
  clear hlk d1 cd cn
  obtain ⟨W, hW⟩ : ∃ W, w.drewN nq = W := ⟨_, rfl⟩
  have E1 : Ext w W := by rw [← hW]; exact Ext.drewN _ _
  rw [hW]
  clear hW
  have H1 := hid (H.out.ext E1)
  have HE1 := hid E1
  obtain ⟨fo, fc, hblk, hsv, hown⟩ := H1.out.file HFL.out
  obtain ⟨q0, q1, ff⟩ := lk2 hblk
  have f1 := ff 1
  have HBW : Hid (B ≤ W.heap.size) := hid (Nat.le_trans HB.out E1.size)
  have HS : Hid (Stp B w p x (FilS s f fun y => (y.1, y.1.length)) (W.setCell ⟨x.bk f, 1, none⟩ (.int .i64 (flen s.files f : Int)))) := hid (by
    have hfr : Fr (x.bk f :: oB (x.sv f)) W (W.setCell ⟨x.bk f, 1, none⟩ (.int .i64 (flen s.files f : Int))) := fr_setCell _ _ _ (by simp)
    refine Stp.pre HE1.out HB.out (Stp.mod H1.out HFL.out HG.out (x.sv f) ?_ ?_ hfr (fun q hq => .inl hq) HBW.out)
    · rw [hsv]
      exact box_set21 hblk _
    · rw [hsv]
      refine ownsRow_fr (S := [x.bk f]) hown (fr_setCell _ _ _ (by simp)) fun q hq hq2 => ?_
      obtain rfl : q = x.bk f := by simpa using hq2
      exact row_no hown hblk (by intro cs e; simp at e) hq)
  clear E1 hblk hsv hown ff
  generalize flen s.files f = fl at *
  generalize x.bk f = bf at *
  go_wp2
  go_returns
  exact ⟨⟨_, rfl⟩, HS.out⟩
set_option maxHeartbeats 1000000 in
theorem dsync_any {B : Nat} {w : World} {p : Nat} {x : DX} {s : PS} (n : Nm) (hk : n.length ≤ maxLen) (h : Dk B w p x s) (hB : B ≤ w.heap.size) (hg : Gd (synP s n).2)  :
    Calls Tryz.prog 21 #[pv p, vN n] w fun e w' => DoR B w p x (synP s n) e w' := by
  have E0 : Ext w (w.alloc (.cells #[pv p] 24 (0, 0))) := Ext.alloc _ _
  have E1 : Ext w ((w.alloc (.cells #[pv p] 24 (0, 0))).alloc (.cells #[vN n] 9 (0, 0))) := E0.trans (Ext.alloc (w.alloc (.cells #[pv p] 24 (0, 0))) _)
  have b0 := (Bx.new w (pv p) 24).ext (Ext.alloc (w.alloc (.cells #[pv p] 24 (0, 0))) (.cells #[vN n] 9 (0, 0)))
  have b1 := Bx.new (w.alloc (.cells #[pv p] 24 (0, 0))) (vN n) 9
  simp only [World.size_alloc] at b1
  have HE := hid E1
  have H := hid (h.ext E1)
  have HG := hid hg
  have HB := hid hB
  obtain ⟨W0, hW0⟩ : ∃ W0, ((w.alloc (.cells #[pv p] 24 (0, 0))).alloc (.cells #[vN n] 9 (0, 0))) = W0 := ⟨_, rfl⟩
  rw [hW0] at HE H b0 b1
  have HB0 := hid b0
  have HB1 := hid b1
  have c0 := b0.cell
  clear h hg E0 b0 E1 b1
  go_enter Tryz.func21, Tryz.ntmps21
  go_wp2_with fail
  clear hW0 c0
  obtain ⟨a, ha⟩ : ∃ a, w.heap.size = a := ⟨_, rfl⟩
  rw [ha] at HB0
  rw [ha] at HB1
  rw [ha]
  obtain ⟨b, hb⟩ : ∃ b, a + 1 = b := ⟨_, rfl⟩
  rw [hb] at HB1
  rw [hb]
  have n0 : a ≠ p := fun e => by have := HB0.out; rw [e] at this; have h2 := H.out.hd; unfold Bx at this; rw [this] at h2; simp at h2
  have n1 : b ≠ p := fun e => by have := HB1.out; rw [e] at this; have h2 := H.out.hd; unfold Bx at this; rw [this] at h2; simp at h2
  refine (ddo_any H.out (Nat.le_trans HB.out HE.out.size) 66 68 #[bp a, bp b] #[bp a, bp b] enSync1 enSync2 (missP s n) (fun s => { s with files := setF s.files (look s.dir n) fun x => (x.1, x.1.length) })
    (fun _ w' k => syn1_any n hk (H.out.ext k) a b (HB0.out.ext k) (HB1.out.ext k))
    (fun h1 h2 h3 w' hD hF hbw => ?_)).mono ?_
  · have hdone := doP_done (act := (fun s => { s with files := setF s.files (look s.dir n) fun x => (x.1, x.1.length) })) h1 h2 h3
    have hgd : Gd (((fun s => { s with files := setF s.files (look s.dir n) fun x => (x.1, x.1.length) })) (fusS s)) := by have := HG.out; unfold synP at this; rw [hdone] at this; exact this
    have hB2 := Nat.le_trans (Nat.le_trans HB.out HE.out.size) hF.size
    have x0 := HB0.out.fr hF (by simpa using n0)
    have x1 := HB1.out.fr hF (by simpa using n1)
    obtain ⟨f, hf⟩ := miss_some h2
    have hact : ({ fusS s with files := setF (fusS s).files (look (fusS s).dir n) fun x => (x.1, x.1.length) } : PS) = FilS (fusS s) f fun y => (y.1, y.1.length) := by
      show ({ fusS s with files := setF s.files (look s.dir n) fun x => (x.1, x.1.length) } : PS) = _
      rw [hf]; rfl
    have hgd2 : Gd (FilS (fusS s) f fun y => (y.1, y.1.length)) := by rw [← hact]; exact hgd
    rw [hact]
    exact syn2_any n hk hD a b x0 x1 hB2 f hf hgd2
  · rintro e w2 ⟨rfl, h2⟩
    have HS : Hid (DoR B w p x (synP s n) _ w2) := hid (DoR.ext ⟨rfl, h2⟩ HE.out HB.out)
    clear h2
    go_wp2
    go_ret
    exact HS.out
set_option maxHeartbeats 1000000 in
theorem del2_any {B : Nat} {w : World} {p : Nat} {x : DX} {s : PS} (n : Nm) (hk : n.length ≤ maxLen) (h : Dk B w p x s) (bd bn : Nat) (hd : Bx w bd (pv p) 24) (hn : Bx w bn (vN n) 9) (hB : B ≤ w.heap.size)
    (hg : Gd (altP ⟨n, [], none⟩ s)) (hl : s.opn.length ≤ 100000) :
    Calls Tryz.prog 97 #[bp bd, bp bn] w fun e w' => (∃ u, e = .returned u) ∧ Stp B w p x (altP ⟨n, [], none⟩ s) w' := by
  have cn := hn.cell
  have cd := hd.cell
  have hcall := dalt_any ⟨n, [], none⟩ h hk (by simp [maxLen]) hg hB hl
  have HCALL := hid hcall
  clear h hd hn hg hcall
  go_enter Tryz.func97, Tryz.ntmps97
  go_wp2_with fail
  refine HCALL.out.mono ?_
  rintro e w2 ⟨⟨u, rfl⟩, h2⟩
  have HS := hid h2
  clear h2 HCALL
  go_wp2
  go_returns
  exact ⟨⟨_, rfl⟩, HS.out⟩
set_option maxHeartbeats 1000000 in
theorem ddelete_any {B : Nat} {w : World} {p : Nat} {x : DX} {s : PS} (n : Nm) (hk : n.length ≤ maxLen) (hl : s.opn.length ≤ 100000) (h : Dk B w p x s) (hB : B ≤ w.heap.size) (hg : Gd (delP s n).2)  :
    Calls Tryz.prog 77 #[pv p, vN n] w fun e w' => DoR B w p x (delP s n) e w' := by
  have E0 : Ext w (w.alloc (.cells #[pv p] 24 (0, 0))) := Ext.alloc _ _
  have E1 : Ext w ((w.alloc (.cells #[pv p] 24 (0, 0))).alloc (.cells #[vN n] 9 (0, 0))) := E0.trans (Ext.alloc (w.alloc (.cells #[pv p] 24 (0, 0))) _)
  have b0 := (Bx.new w (pv p) 24).ext (Ext.alloc (w.alloc (.cells #[pv p] 24 (0, 0))) (.cells #[vN n] 9 (0, 0)))
  have b1 := Bx.new (w.alloc (.cells #[pv p] 24 (0, 0))) (vN n) 9
  simp only [World.size_alloc] at b1
  have HE := hid E1
  have H := hid (h.ext E1)
  have HG := hid hg
  have HB := hid hB
  obtain ⟨W0, hW0⟩ : ∃ W0, ((w.alloc (.cells #[pv p] 24 (0, 0))).alloc (.cells #[vN n] 9 (0, 0))) = W0 := ⟨_, rfl⟩
  rw [hW0] at HE H b0 b1
  have HB0 := hid b0
  have HB1 := hid b1
  have c0 := b0.cell
  clear h hg E0 b0 E1 b1
  go_enter Tryz.func77, Tryz.ntmps77
  go_wp2_with fail
  clear hW0 c0
  obtain ⟨a, ha⟩ : ∃ a, w.heap.size = a := ⟨_, rfl⟩
  rw [ha] at HB0
  rw [ha] at HB1
  rw [ha]
  obtain ⟨b, hb⟩ : ∃ b, a + 1 = b := ⟨_, rfl⟩
  rw [hb] at HB1
  rw [hb]
  have n0 : a ≠ p := fun e => by have := HB0.out; rw [e] at this; have h2 := H.out.hd; unfold Bx at this; rw [this] at h2; simp at h2
  have n1 : b ≠ p := fun e => by have := HB1.out; rw [e] at this; have h2 := H.out.hd; unfold Bx at this; rw [this] at h2; simp at h2
  refine (ddo_any H.out (Nat.le_trans HB.out HE.out.size) 96 97 #[bp a, bp b] #[bp a, bp b] enDelete1 enDelete2 (missP s n) (fun s => { s with opn := s.opn ++ [⟨n, [], none⟩] })
    (fun _ w' k => del1_any n hk (H.out.ext k) a b (HB0.out.ext k) (HB1.out.ext k))
    (fun h1 h2 h3 w' hD hF hbw => ?_)).mono ?_
  · have hdone := doP_done (act := (fun s => { s with opn := s.opn ++ [⟨n, [], none⟩] })) h1 h2 h3
    have hgd : Gd (((fun s => { s with opn := s.opn ++ [⟨n, [], none⟩] })) (fusS s)) := by have := HG.out; unfold delP at this; rw [hdone] at this; exact this
    have hB2 := Nat.le_trans (Nat.le_trans HB.out HE.out.size) hF.size
    have x0 := HB0.out.fr hF (by simpa using n0)
    have x1 := HB1.out.fr hF (by simpa using n1)
    exact del2_any n hk hD a b x0 x1 hB2 hgd hl
  · rintro e w2 ⟨rfl, h2⟩
    have HS : Hid (DoR B w p x (delP s n) _ w2) := hid (DoR.ext ⟨rfl, h2⟩ HE.out HB.out)
    clear h2
    go_wp2
    go_ret
    exact HS.out
set_option maxHeartbeats 1000000 in
theorem ren1_any {B : Nat} {w : World} {p : Nat} {x : DX} {s : PS} (n m : Nm) (hk : n.length ≤ maxLen) (hm : m.length ≤ maxLen) (h : Dk B w p x s) (bd bn bm : Nat) (hd : Bx w bd (pv p) 24) (hn : Bx w bn (vN n) 9) (hbm : Bx w bm (vN m) 9) :
    Calls Tryz.prog 78 #[bp bd, bp bn, bp bm] w fun e w' => e = .returned (.int .i64 (renE s n m : Nat)) ∧ Ext w w' := by
  have HM := hid hbm
  have cn := hn.cell
  have cd := hd.cell
  obtain ⟨⟨-, d1, -⟩, -⟩ := lk6 h.hd
  have hlk := look_fact h n hk
  clear h hd hn hbm
  cases hf : look s.dir n with
  | none =>
    have HC : Hid (renE s n m = 5) := hid (by unfold renE; rw [if_pos hf])
    rw [hf] at hlk
    simp only [Option.map_none, ptr] at hlk
    clear hf
    go_enter Tryz.func78, Tryz.ntmps78
    go_wp2_with fail
    go_quiet (fail)
    clear hlk d1
    go_wp2
    go_ret
    rw [HC.out]
    exact ⟨rfl, Ext.drewN _ _⟩
  | some f =>
    have HF := hid hf
    rw [hf] at hlk
    simp only [Option.map_some, ptr] at hlk
    clear hf
    generalize x.bk f = bf at *
    go_enter Tryz.func78, Tryz.ntmps78
    go_wp2_with fail
    go_quiet (fail)
    clear hlk d1 cd cn
    obtain ⟨w2, hw2⟩ : ∃ w2, w.drewN nq = w2 := ⟨_, rfl⟩
    have E2 : Ext w w2 := by rw [← hw2]; exact Ext.drewN _ _
    rw [hw2]
    clear hw2
    have cm := (HM.out.ext E2).cell
    have HE2 := hid E2
    clear E2
    go_wp2_with fail
    refine (dnm_any m w2 hm).mono ?_
    rintro e w3 ⟨rfl, E3⟩
    have HE3 := hid (HE2.out.trans E3)
    clear E3
    cases hok : nmOk m with
    | false =>
      have HC : Hid (renE s n m = 1) := hid (by unfold renE; rw [if_neg (by rw [HF.out]; simp), if_pos hok])
      clear hok
      go_wp2
      go_ret
      rw [HC.out]
      exact ⟨rfl, HE3.out⟩
    | true =>
      have HC : Hid (renE s n m = 0) := hid (by unfold renE; rw [if_neg (by rw [HF.out]; simp), if_neg (by rw [hok]; simp)])
      clear hok
      go_wp2
      go_ret
      rw [HC.out]
      exact ⟨rfl, HE3.out⟩
set_option maxRecDepth 100000 in
set_option maxHeartbeats 1000000 in
theorem ren2_any {B : Nat} {w : World} {p : Nat} {x : DX} {s : PS} (n m : Nm) (hk : n.length ≤ maxLen) (hm : m.length ≤ maxLen) (h : Dk B w p x s) (bd bn bm : Nat) (hd : Bx w bd (pv p) 24) (hn : Bx w bn (vN n) 9) (hbm : Bx w bm (vN m) 9) (hB : B ≤ w.heap.size)
    (f : Nat) (hf : look s.dir n = some f) (hg : Gd (altP ⟨n, m, some f⟩ s)) (hl : s.opn.length ≤ 100000) :
    Calls Tryz.prog 79 #[bp bd, bp bn, bp bm] w fun e w' => (∃ u, e = .returned u) ∧ Stp B w p x (altP ⟨n, m, some f⟩ s) w' := by
  have H := hid h
  have HG := hid hg
  have HB := hid hB
  have CD := hid hd.cell
  have CN := hid hn.cell
  have CM := hid hbm.cell
  have D1 := hid (lk6 h.hd).1.2.1
  have HF := hid hf
  obtain ⟨bf, hbf⟩ : ∃ bf, x.bk f = bf := ⟨_, rfl⟩
  have HBF := hid hbf
  clear h hd hn hbm hg hB hbf hf
  go_enter Tryz.func79, Tryz.ntmps79
  go_wp2_with fail
  refine ParE.wp_region_e (l := [_, _, _, _, _, _, _, _, _, _, _]) rfl (Rg.R1 w 10 (fun w' => Stp B w p x (altP ⟨n, m, some f⟩ s) w')) (ParC.VC [ParC.EQ (pv p), ParC.EQ (vN n), ParC.EQ (vN m), ParC.EQ (pv p), ParC.EQ (pv p), ParC.EQ (Value.pointer (some ⟨p, 1, none⟩)), ParC.EQ (Value.map (some x.md)), ParC.EQ (vN n), ParC.EQ (bp bf), ParC.EQ (Value.agg #[vN n, vN m, bp bf]), (fun _ => True)]) (by kernel_rfl) (by kernel_rfl) (Rg.R1.start) ?_ ?_
  · refine ⟨fun L ρ w' hR hC hL hd hk => ?_, ?_⟩
    · obtain ⟨k0, -⟩ := hk
      have e0 : ρ (.tmp 0) = bp bd := k0
      clear k0
      refine Par.val_k fun K hK => ?_
      unfold Par.val
      (have hx := hR.a (hC.notyet 10 0 hL (by kernel_rfl)); have cc := hx.cell CD.out; go_simp; exact hK _ _ ⟨hR.other (by decide), rfl⟩)
    refine ⟨fun L ρ w' hR hC hL hd hk => ?_, ?_⟩
    · obtain ⟨k0, -⟩ := hk
      have e0 : ρ (.tmp 1) = bp bn := k0
      clear k0
      refine Par.val_k fun K hK => ?_
      unfold Par.val
      (have hx := hR.a (hC.notyet 10 1 hL (by kernel_rfl)); have cc := hx.cell CN.out; go_simp; exact hK _ _ ⟨hR.other (by decide), rfl⟩)
    refine ⟨fun L ρ w' hR hC hL hd hk => ?_, ?_⟩
    · obtain ⟨k0, -⟩ := hk
      have e0 : ρ (.tmp 2) = bp bm := k0
      clear k0
      refine Par.val_k fun K hK => ?_
      unfold Par.val
      (have hx := hR.a (hC.notyet 10 2 hL (by kernel_rfl)); have cc := hx.cell CM.out; go_simp; exact hK _ _ ⟨hR.other (by decide), rfl⟩)
    refine ⟨fun L ρ w' hR hC hL hd hk => ?_, ?_⟩
    · obtain ⟨k0, -⟩ := hk
      have e0 : ρ (.tmp 0) = bp bd := k0
      clear k0
      refine Par.val_k fun K hK => ?_
      unfold Par.val
      (have hx := hR.a (hC.notyet 10 3 hL (by kernel_rfl)); have cc := hx.cell CD.out; go_simp; exact hK _ _ ⟨hR.other (by decide), rfl⟩)
    refine ⟨fun L ρ w' hR hC hL hd hk => ?_, ?_⟩
    · obtain ⟨k0, -⟩ := hk
      have e0 : ρ (.tmp 6) = pv p := k0
      clear k0
      refine Par.val_k fun K hK => ?_
      unfold Par.val
      (go_simp; exact hK _ _ ⟨hR.other (by decide), rfl⟩)
    refine ⟨fun L ρ w' hR hC hL hd hk => ?_, ?_⟩
    · obtain ⟨k0, -⟩ := hk
      have e0 : ρ (.tmp 7) = pv p := k0
      clear k0
      refine Par.val_k fun K hK => ?_
      unfold Par.val
      (go_simp; exact hK _ _ ⟨hR.other (by decide), rfl⟩)
    refine ⟨fun L ρ w' hR hC hL hd hk => ?_, ?_⟩
    · obtain ⟨k0, -⟩ := hk
      have e0 : ρ (.tmp 8) = Value.pointer (some ⟨p, 1, none⟩) := k0
      clear k0
      refine Par.val_k fun K hK => ?_
      unfold Par.val
      (have hx := hR.a (hC.notyet 10 6 hL (by kernel_rfl)); have cc := hx.cell D1.out; go_simp; exact hK _ _ ⟨hR.other (by decide), rfl⟩)
    refine ⟨fun L ρ w' hR hC hL hd hk => ?_, ?_⟩
    · obtain ⟨k0, -⟩ := hk
      have e0 : ρ (.tmp 1) = bp bn := k0
      clear k0
      refine Par.val_k fun K hK => ?_
      unfold Par.val
      (have hx := hR.a (hC.notyet 10 7 hL (by kernel_rfl)); have cc := hx.cell CN.out; go_simp; exact hK _ _ ⟨hR.other (by decide), rfl⟩)
    refine ⟨fun L ρ w' hR hC hL hd hk => ?_, ?_⟩
    · obtain ⟨k0, k1, -⟩ := hk
      have e0 : ρ (.tmp 9) = Value.map (some x.md) := k0
      have e1 : ρ (.tmp 10) = vN n := k1
      clear k0 k1
      refine Par.val_k fun K hK => ?_
      unfold Par.val
      (have hx := hR.a (hC.notyet 10 8 hL (by kernel_rfl)); have hlk := (H.out.ext hx).dr.look n hk; rw [hb_look, HF.out] at hlk; simp only [Option.map_some, HBF.out] at hlk; simp only [ptr] at hlk; go_simp; exact hK _ _ ⟨hR.other (by decide), rfl⟩)
    refine ⟨fun L ρ w' hR hC hL hd hk => ?_, ?_⟩
    · obtain ⟨k0, k1, k2, -⟩ := hk
      have e0 : ρ (.tmp 4) = vN n := k0
      have e1 : ρ (.tmp 5) = vN m := k1
      have e2 : ρ (.tmp 11) = bp bf := k2
      clear k0 k1 k2
      refine Par.val_k fun K hK => ?_
      unfold Par.val
      (go_simp; exact hK _ _ ⟨hR.other (by decide), rfl⟩)
    refine ⟨fun L ρ w' hR hC hL hd hk => ?_, ?_⟩
    · obtain ⟨k0, k1, k2, -⟩ := hk
      have e0 := k0
      have e1 : ρ (.tmp 3) = pv p := k1
      have e2 : ρ (.tmp 12) = Value.agg #[vN n, vN m, bp bf] := k2
      clear k0 k1 k2
      refine Par.val_k fun K hK => ?_
      unfold Par.val
      (have hx := hR.a hL; have hD := H.out.ext hx; have hcall := dalt_any ⟨n, m, some f⟩ hD hk hm HG.out (Nat.le_trans HB.out hx.size) hl; simp only [Option.map_some, HBF.out] at hcall; simp only [ptr] at hcall; refine Par.val_call Tryz.func59 (by kernel_rfl) rfl e0 ?_; simp only [List.map_toArray, List.map_cons, List.map_nil, e1, e2]; refine hcall.mono ?_; rintro e w2 ⟨⟨u, rfl⟩, q2⟩; exact ⟨_, rfl, hK _ _ ⟨Rg.R1.last (Stp.pre hx HB.out q2), trivial⟩⟩)
    trivial
  intro a' w' inv hR
  have q3 : a'.tmps.getD 3 undef = pv p := inv.done 0 _ 3 rfl rfl rfl
  have q4 : a'.tmps.getD 4 undef = vN n := inv.done 1 _ 4 rfl rfl rfl
  have q5 : a'.tmps.getD 5 undef = vN m := inv.done 2 _ 5 rfl rfl rfl
  have q6 : a'.tmps.getD 6 undef = pv p := inv.done 3 _ 6 rfl rfl rfl
  have q7 : a'.tmps.getD 7 undef = pv p := inv.done 4 _ 7 rfl rfl rfl
  have q8 : a'.tmps.getD 8 undef = Value.pointer (some ⟨p, 1, none⟩) := inv.done 5 _ 8 rfl rfl rfl
  have q9 : a'.tmps.getD 9 undef = Value.map (some x.md) := inv.done 6 _ 9 rfl rfl rfl
  have q10 : a'.tmps.getD 10 undef = vN n := inv.done 7 _ 10 rfl rfl rfl
  have q11 : a'.tmps.getD 11 undef = bp bf := inv.done 8 _ 11 rfl rfl rfl
  have q12 : a'.tmps.getD 12 undef = Value.agg #[vN n, vN m, bp bf] := inv.done 9 _ 12 rfl rfl rfl
  have q13 : (fun _ => True) (a'.tmps.getD 13 undef)  := inv.done 10 _ 13 rfl rfl rfl
  clear inv
  simp only [List.filterMap_cons, List.filterMap_nil, Par.putAll, Act.put, List.setIfInBounds_toArray, List.set_cons_succ, List.set_cons_zero, q3, q4, q5, q6, q7, q8, q9, q10, q11, q12]
  clear q3 q4 q5 q6 q7 q8 q9 q10 q11 q12
  generalize a'.tmps.getD 13 undef = u13 at *
  try clear a'
  have HS := hid (hR.z rfl)
  clear hR
  go_wp2
  go_returns
  exact ⟨⟨_, rfl⟩, HS.out⟩
set_option maxHeartbeats 1000000 in
theorem drename_any {B : Nat} {w : World} {p : Nat} {x : DX} {s : PS} (n m : Nm) (hk : n.length ≤ maxLen) (hm : m.length ≤ maxLen) (hl : s.opn.length ≤ 100000) (h : Dk B w p x s) (hB : B ≤ w.heap.size) (hg : Gd (renP s n m).2)  :
    Calls Tryz.prog 41 #[pv p, vN n, vN m] w fun e w' => DoR B w p x (renP s n m) e w' := by
  have E0 : Ext w (w.alloc (.cells #[pv p] 24 (0, 0))) := Ext.alloc _ _
  have E1 : Ext w ((w.alloc (.cells #[pv p] 24 (0, 0))).alloc (.cells #[vN n] 9 (0, 0))) := E0.trans (Ext.alloc (w.alloc (.cells #[pv p] 24 (0, 0))) _)
  have E2 : Ext w (((w.alloc (.cells #[pv p] 24 (0, 0))).alloc (.cells #[vN n] 9 (0, 0))).alloc (.cells #[vN m] 9 (0, 0))) := E1.trans (Ext.alloc ((w.alloc (.cells #[pv p] 24 (0, 0))).alloc (.cells #[vN n] 9 (0, 0))) _)
  have b0 := ((Bx.new w (pv p) 24).ext (Ext.alloc (w.alloc (.cells #[pv p] 24 (0, 0))) (.cells #[vN n] 9 (0, 0)))).ext (Ext.alloc ((w.alloc (.cells #[pv p] 24 (0, 0))).alloc (.cells #[vN n] 9 (0, 0))) (.cells #[vN m] 9 (0, 0)))
  have b1 := (Bx.new (w.alloc (.cells #[pv p] 24 (0, 0))) (vN n) 9).ext (Ext.alloc ((w.alloc (.cells #[pv p] 24 (0, 0))).alloc (.cells #[vN n] 9 (0, 0))) (.cells #[vN m] 9 (0, 0)))
  simp only [World.size_alloc] at b1
  have b2 := Bx.new ((w.alloc (.cells #[pv p] 24 (0, 0))).alloc (.cells #[vN n] 9 (0, 0))) (vN m) 9
  simp only [World.size_alloc] at b2
  have HE := hid E2
  have H := hid (h.ext E2)
  have HG := hid hg
  have HB := hid hB
  obtain ⟨W0, hW0⟩ : ∃ W0, (((w.alloc (.cells #[pv p] 24 (0, 0))).alloc (.cells #[vN n] 9 (0, 0))).alloc (.cells #[vN m] 9 (0, 0))) = W0 := ⟨_, rfl⟩
  rw [hW0] at HE H b0 b1 b2
  have HB0 := hid b0
  have HB1 := hid b1
  have HB2 := hid b2
  have c0 := b0.cell
  clear h hg E0 b0 E1 b1 E2 b2
  go_enter Tryz.func41, Tryz.ntmps41
  go_wp2_with fail
  clear hW0 c0
  obtain ⟨a, ha⟩ : ∃ a, w.heap.size = a := ⟨_, rfl⟩
  rw [ha] at HB0
  rw [ha] at HB1
  rw [ha] at HB2
  rw [ha]
  obtain ⟨b, hb⟩ : ∃ b, a + 1 = b := ⟨_, rfl⟩
  rw [hb] at HB1
  rw [hb] at HB2
  rw [hb]
  obtain ⟨c, hc⟩ : ∃ c, b + 1 = c := ⟨_, rfl⟩
  rw [hc] at HB2
  rw [hc]
  have n0 : a ≠ p := fun e => by have := HB0.out; rw [e] at this; have h2 := H.out.hd; unfold Bx at this; rw [this] at h2; simp at h2
  have n1 : b ≠ p := fun e => by have := HB1.out; rw [e] at this; have h2 := H.out.hd; unfold Bx at this; rw [this] at h2; simp at h2
  have n2 : c ≠ p := fun e => by have := HB2.out; rw [e] at this; have h2 := H.out.hd; unfold Bx at this; rw [this] at h2; simp at h2
  refine (ddo_any H.out (Nat.le_trans HB.out HE.out.size) 78 79 #[bp a, bp b, bp c] #[bp a, bp b, bp c] enRename1 enRename2 (renE s n m) (fun s => { s with opn := s.opn ++ [⟨n, m, look s.dir n⟩] })
    (fun _ w' k => ren1_any n m hk hm (H.out.ext k) a b c (HB0.out.ext k) (HB1.out.ext k) (HB2.out.ext k))
    (fun h1 h2 h3 w' hD hF hbw => ?_)).mono ?_
  · have hdone := doP_done (act := (fun s => { s with opn := s.opn ++ [⟨n, m, look s.dir n⟩] })) h1 h2 h3
    have hgd : Gd (((fun s => { s with opn := s.opn ++ [⟨n, m, look s.dir n⟩] })) (fusS s)) := by have := HG.out; unfold renP at this; rw [hdone] at this; exact this
    have hB2 := Nat.le_trans (Nat.le_trans HB.out HE.out.size) hF.size
    have x0 := HB0.out.fr hF (by simpa using n0)
    have x1 := HB1.out.fr hF (by simpa using n1)
    have x2 := HB2.out.fr hF (by simpa using n2)
    obtain ⟨f, hf⟩ : ∃ f, look s.dir n = some f := by
      cases hq : look s.dir n with
      | some f => exact ⟨f, rfl⟩
      | none => exact absurd h2 (by unfold renE; rw [if_pos hq]; decide)
    have hact : ({ fusS s with opn := (fusS s).opn ++ [⟨n, m, look (fusS s).dir n⟩] } : PS) = altP ⟨n, m, some f⟩ (fusS s) := by
      show ({ fusS s with opn := (fusS s).opn ++ [⟨n, m, look s.dir n⟩] } : PS) = _
      rw [hf]; rfl
    have hgd2 : Gd (altP ⟨n, m, some f⟩ (fusS s)) := by rw [← hact]; exact hgd
    rw [hact]
    exact ren2_any n m hk hm hD a b c x0 x1 x2 hB2 f hf hgd2 hl
  · rintro e w2 ⟨rfl, h2⟩
    have HS : Hid (DoR B w p x (renP s n m) _ w2) := hid (DoR.ext ⟨rfl, h2⟩ HE.out HB.out)
    clear h2
    go_wp2
    go_ret
    exact HS.out
end Go.Proofs.YtijpokajhjhllaaGreatDoor

set_option linter.unusedSimpArgs false
set_option linter.unusedVariables false
namespace Go.Proofs.YtijpokajhjhllaaGreatDoor
open Go Go.RowKit Go.Tum Go.ChangeMaps
open Go.ParB (upd Lof)
open Go.ParE (putS slotsR slots Closed)
theorem enDirSync1 (args : Array Value) (w : World) : Sem.run Tryz.prog (callFunc 69 args) w = .ok (.enter 69 args) w := enter_of Tryz.func69 (by kernel_rfl) (by kernel_rfl) args w
theorem enDirSync2 (args : Array Value) (w : World) : Sem.run Tryz.prog (callFunc 70 args) w = .ok (.enter 70 args) w := enter_of Tryz.func70 (by kernel_rfl) (by kernel_rfl) args w
/-- A row cut short is one. -/
theorem own_take {w : World} {b e n cap : Nat} {ao : Option Addr} {l : List UInt8} (h : Own w b e (.slice ao n cap) l) (k : Nat) (hk : k ≤ n) (h0 : ao = none → k = 0 ∧ cap = 0) : Own w b e (.slice ao k cap) (l.take k) := by
  have hn := h.len
  unfold Own at h ⊢
  have hlen : (l.take k).length = k := by rw [List.length_take]; omega
  rw [hlen]
  refine ⟨by rw [List.length_map, hlen]; omega, ?_⟩
  rcases h.2 with ⟨hv, -⟩ | ⟨g, cap', cur, hv, hb, hgg, h1, h2, h3, h4⟩
  · cases hv
    obtain ⟨rfl, -⟩ := h0 rfl
    exact .inl ⟨rfl, rfl⟩
  · cases hv
    refine .inr ⟨g, cap, cur, rfl, hb, hgg, by omega, h2, h3, ?_⟩
    rw [List.map_take, ← h4, List.take_take]
    congr 1; omega
end Go.Proofs.YtijpokajhjhllaaGreatDoor

set_option linter.unusedSimpArgs false
set_option linter.unusedVariables false
namespace Go.Proofs.YtijpokajhjhllaaGreatDoor
open Go Go.RowKit Go.Tum Go.ChangeMaps
open Go.ParB (upd Lof)
open Go.ParE (putS slotsR slots Closed)

set_option maxRecDepth 100000 in
set_option maxHeartbeats 2000000 in
theorem clone_any (w : World) (m : Nat) (l : Dir) (h : PM w m l) :
    Calls Tryz.prog 53 #[.map (some m)] w fun e w' => e = .returned (.map (some w.heap.size)) ∧ PM w' w.heap.size l ∧ Ext w w' := by
  obtain ⟨es, ck, hb⟩ := h.block
  have hq := fun w => run_eql_map_nil_sl (P := Tryz.prog) w 68 _ _ (some m) Tryz.underlying68
  have H := hid h
  clear h
  go_enter Tryz.func53, Tryz.ntmps53
  go_wp2
  rw [run_callFunc_extern Tryz.func90 (by kernel_rfl) (by kernel_rfl) (by kernel_rfl) (e := Extern.MapsClone.clone) (by kernel_rfl), run_maps_clone_sl w 68 hb]
  simp only [Result.andThen]
  rw [Oper.upon_value]
  go_wp2
  rw [run_typeAssert_map_sl _ 68 20 _ _ _ Tryz.underlying68]
  simp only [Result.andThen]
  rw [Oper.upon_value]
  go_wp2
  go_ret
  refine ⟨rfl, ?_, Ext.alloc _ _⟩
  obtain ⟨D, ⟨es2, c2, e1, e2, e3, e4⟩, k2, k3⟩ := H.out
  rw [hb] at e1
  cases e1
  exact ⟨D, ⟨es, ck, heap_alloc_new _ _, e2, e3, e4⟩, k2, k3⟩
def DX.synced (x : DX) (m : Nat) : DX := ⟨x.md, m, .slice none 0 0, x.bl⟩
def dsyS (s : PS) : PS := { s with sure := s.dir, opn := [] }
theorem dsyS_dir (s : PS) : (dsyS s).dir = s.dir := rfl
theorem ds1_any (w : World) : Calls Tryz.prog 69 #[] w fun e w' => e = .returned (.int .i64 0) ∧ Ext w w' := by
  go_enter Tryz.func69, Tryz.ntmps69
  go_wp2
  go_ret
  exact ⟨rfl, Ext.refl _⟩
set_option maxRecDepth 100000 in
set_option maxHeartbeats 1000000 in
theorem ds2_any {B : Nat} {w : World} {p : Nat} {x : DX} {s : PS} (h : Dk B w p x s) (bd : Nat) (hd : Bx w bd (pv p) 24) (hB : B ≤ w.heap.size) (hg : Gd (dsyS s)) :
    Calls Tryz.prog 70 #[bp bd] w fun e w' => (∃ u, e = .returned u) ∧ Stp B w p x (dsyS s) w' := by
  have H := hid h
  have HG := hid hg
  have HB := hid hB
  have HBP : Hid (bd ≠ p) := hid (fun e => by have h1 := hd; rw [e] at h1; have h2 := h.hd; unfold Bx at h1; rw [h1] at h2; simp at h2)
  have CD := hid hd.cell
  have D1 := hid (lk6 h.hd).1.2.1
  have HHD := hid h.hd
  obtain ⟨vo, vc, hvo⟩ := row_shape h.op
  have HVO := hid hvo
  clear h hd hg hB hvo
  go_enter Tryz.func70, Tryz.ntmps70
  go_wp2_with fail
  refine ParE.wp_region_e (l := [_, _, _, _, _, _, _, _, _, _, _, _, _]) rfl (Rg.R3 w 6 7 9 999 12 (fun v w' => Ext w w' ∧ ∃ m, v = .map (some m) ∧ PM w' m (x.hb s.dir) ∧ w.heap.size ≤ m) (fun _ w' => ∃ m, w'.heap[p]? = some (diskO { x with ms := m } s) ∧ PM w' m (x.hb s.dir) ∧ w.heap.size ≤ m ∧ Fr [p] w w') (fun w' => ∃ m, w'.heap[p]? = some (diskO (x.synced m) (dsyS s)) ∧ PM w' m (x.hb s.dir) ∧ w.heap.size ≤ m ∧ Fr [p] w w')) (ParC.VC [ParC.EQ (pv p), ParC.EQ (pv p), ParC.EQ (pv p), ParC.EQ (pv p), ParC.EQ (Value.pointer (some ⟨p, 1, none⟩)), ParC.EQ (Value.map (some x.md)), (fun _ => True), ParC.EQ (pv p), ParC.EQ (Value.pointer (some ⟨p, 2, none⟩)), fun _ => True, ParC.EQ (pv p), ParC.EQ (Value.pointer (some ⟨p, 3, none⟩)), fun _ => True]) (by kernel_rfl) (by kernel_rfl) (Rg.R3.start) ?_ ?_
  · refine ⟨fun L ρ w' hR hC hL hd hk => ?_, ?_⟩
    · obtain ⟨k0, -⟩ := hk
      have e0 : ρ (.tmp 0) = bp bd := k0
      clear k0
      refine Par.val_k fun K hK => ?_
      unfold Par.val
      (have hx := hR.a (hC.notyet 9 0 hL (by kernel_rfl)) (hC.notyet 12 0 hL (by kernel_rfl)); have cc := hx.cell CD.out; go_simp; exact hK _ _ ⟨hR.other (by decide), rfl⟩)
    refine ⟨fun L ρ w' hR hC hL hd hk => ?_, ?_⟩
    · obtain ⟨k0, -⟩ := hk
      have e0 : ρ (.tmp 0) = bp bd := k0
      clear k0
      refine Par.val_k fun K hK => ?_
      unfold Par.val
      (have n12 := hC.notyet 12 1 hL (by kernel_rfl); have hF : Fr [p] w w' := (by cases h9 : L 9 with | false => exact Ext.fr (hR.a h9 n12) | true => obtain ⟨m, -, -, -, g⟩ := hR.b h9 n12; exact g); have cc := (hF.cell (a := ⟨bd, 0, none⟩) (by simpa using HBP.out) (World.block_lt_of_cell? w _ CD.out)).trans CD.out; go_simp; exact hK _ _ ⟨hR.other (by decide), rfl⟩)
    refine ⟨fun L ρ w' hR hC hL hd hk => ?_, ?_⟩
    · obtain ⟨k0, -⟩ := hk
      have e0 : ρ (.tmp 0) = bp bd := k0
      clear k0
      refine Par.val_k fun K hK => ?_
      unfold Par.val
      (have hx := hR.a (hC.notyet 9 2 hL (by kernel_rfl)) (hC.notyet 12 2 hL (by kernel_rfl)); have cc := hx.cell CD.out; go_simp; exact hK _ _ ⟨hR.other (by decide), rfl⟩)
    refine ⟨fun L ρ w' hR hC hL hd hk => ?_, ?_⟩
    · obtain ⟨k0, -⟩ := hk
      have e0 : ρ (.tmp 3) = pv p := k0
      clear k0
      refine Par.val_k fun K hK => ?_
      unfold Par.val
      (go_simp; exact hK _ _ ⟨hR.other (by decide), rfl⟩)
    refine ⟨fun L ρ w' hR hC hL hd hk => ?_, ?_⟩
    · obtain ⟨k0, -⟩ := hk
      have e0 : ρ (.tmp 4) = pv p := k0
      clear k0
      refine Par.val_k fun K hK => ?_
      unfold Par.val
      (go_simp; exact hK _ _ ⟨hR.other (by decide), rfl⟩)
    refine ⟨fun L ρ w' hR hC hL hd hk => ?_, ?_⟩
    · obtain ⟨k0, -⟩ := hk
      have e0 : ρ (.tmp 5) = Value.pointer (some ⟨p, 1, none⟩) := k0
      clear k0
      refine Par.val_k fun K hK => ?_
      unfold Par.val
      (have hx := hR.a (hC.notyet 9 5 hL (by kernel_rfl)) (hC.notyet 12 5 hL (by kernel_rfl)); have cc := hx.cell D1.out; go_simp; exact hK _ _ ⟨hR.other (by decide), rfl⟩)
    refine ⟨fun L ρ w' hR hC hL hd hk => ?_, ?_⟩
    · obtain ⟨k0, k1, -⟩ := hk
      have e0 := k0
      have e1 : ρ (.tmp 6) = Value.map (some x.md) := k1
      clear k0 k1
      refine Par.val_k fun K hK => ?_
      unfold Par.val
      (have n9 := hC.notyet 9 6 hL (by kernel_rfl); have n12 := hC.notyet 12 6 hL (by kernel_rfl); have hx := hR.a n9 n12; refine Par.val_call Tryz.func53 (by kernel_rfl) rfl e0 ?_; simp only [List.map_toArray, List.map_cons, List.map_nil, e1]; refine (clone_any w' x.md (x.hb s.dir) (H.out.ext hx).dr).mono ?_; rintro e w2 ⟨rfl, q1, q2⟩; exact ⟨_, rfl, hK _ _ ⟨Rg.R3.zero (by decide) n9 n12 (hx.trans q2) ⟨hx.trans q2, _, rfl, q1, hx.size⟩, trivial⟩⟩)
    refine ⟨fun L ρ w' hR hC hL hd hk => ?_, ?_⟩
    · obtain ⟨k0, -⟩ := hk
      have e0 : ρ (.tmp 1) = pv p := k0
      clear k0
      refine Par.val_k fun K hK => ?_
      unfold Par.val
      (go_simp; exact hK _ _ ⟨hR.other (by decide), rfl⟩)
    refine ⟨fun L ρ w' hR hC hL hd hk => ?_, ?_⟩
    · obtain ⟨k0, -⟩ := hk
      have e0 : ρ (.tmp 8) = pv p := k0
      clear k0
      refine Par.val_k fun K hK => ?_
      unfold Par.val
      (go_simp; exact hK _ _ ⟨hR.other (by decide), rfl⟩)
    refine ⟨fun L ρ w' hR hC hL hd hk => ?_, ?_⟩
    · obtain ⟨k0, k1, -⟩ := hk
      have e0 : ρ (.tmp 9) = Value.pointer (some ⟨p, 2, none⟩) := k0
      have e1 : (fun _ => True) (ρ (.tmp 7))  := k1
      clear k0 k1
      refine Par.val_k fun K hK => ?_
      unfold Par.val
      (have n12 := hC.notyet 12 9 hL (by kernel_rfl); have h6 := hC.before 6 (i := 9) rfl hd (by kernel_rfl); obtain ⟨hx, m, hm1, hm2, hm3⟩ := hR.s h6 hL; have e4 : ρ (.tmp 7) = .map (some m) := hm1; have hb2 := hx.obj HHD.out; obtain ⟨⟨-, -, cc, -, -, -⟩, ff⟩ := lk6 hb2; have f2 := ff 2; have g1 := block_set6 hb2 2 (.map (some m)); have hpm : p ∉ [m] := (by have := (Array.getElem?_eq_some_iff.1 HHD.out).1; simp; omega); have g2 : PM (w'.setCell ⟨p, 2, none⟩ (.map (some m))) m (x.hb s.dir) := hm2.fr (S := [p]) (fr_setCell _ _ _ (by simp)) (by simp at hpm ⊢; exact fun e => hpm e.symm); clear ff; go_simp; exact hK _ _ ⟨Rg.R3.oneN (by decide) n12 ⟨m, g1, g2, hm3, (Ext.fr hx).trans (fr_setCell _ _ _ (by simp))⟩, trivial⟩)
    refine ⟨fun L ρ w' hR hC hL hd hk => ?_, ?_⟩
    · obtain ⟨k0, -⟩ := hk
      have e0 : ρ (.tmp 2) = pv p := k0
      clear k0
      refine Par.val_k fun K hK => ?_
      unfold Par.val
      (go_simp; exact hK _ _ ⟨hR.other (by decide), rfl⟩)
    refine ⟨fun L ρ w' hR hC hL hd hk => ?_, ?_⟩
    · obtain ⟨k0, -⟩ := hk
      have e0 : ρ (.tmp 10) = pv p := k0
      clear k0
      refine Par.val_k fun K hK => ?_
      unfold Par.val
      (go_simp; exact hK _ _ ⟨hR.other (by decide), rfl⟩)
    refine ⟨fun L ρ w' hR hC hL hd hk => ?_, ?_⟩
    · obtain ⟨k0, k1, -⟩ := hk
      have e0 : ρ (.tmp 11) = Value.pointer (some ⟨p, 3, none⟩) := k0
      have e1 : ρ (Operand.const (Value.slice none 0 0)) = (Value.slice none 0 0) := k1
      clear k0 k1
      refine Par.val_k fun K hK => ?_
      unfold Par.val
      (have h9 := hC.before 9 (i := 12) rfl hd (by kernel_rfl); obtain ⟨m, g1, g2, g3, g4⟩ := hR.b h9 hL; have g1' := g1; unfold diskO at g1'; simp only [HVO.out] at g1'; obtain ⟨⟨-, -, -, cc, -, -⟩, ff⟩ := lk6 g1'; have f3 := ff 3; have k1 := block_set6 g1 3 (.slice none 0 0); have hpm : p ∉ [m] := (by have := (Array.getElem?_eq_some_iff.1 HHD.out).1; simp; omega); have k2 : PM (w'.setCell ⟨p, 3, none⟩ (.slice none 0 0)) m (x.hb s.dir) := g2.fr (S := [p]) (fr_setCell _ _ _ (by simp)) (by simp at hpm ⊢; exact fun e => hpm e.symm); clear ff g1'; go_simp; exact hK _ _ ⟨Rg.R3.two (by decide) h9 ⟨m, k1, k2, g3, g4.trans (fr_setCell _ _ _ (by simp))⟩, trivial⟩)
    trivial
  intro a' w' inv hR
  have q1 : a'.tmps.getD 1 undef = pv p := inv.done 0 _ 1 rfl rfl rfl
  have q2 : a'.tmps.getD 2 undef = pv p := inv.done 1 _ 2 rfl rfl rfl
  have q3 : a'.tmps.getD 3 undef = pv p := inv.done 2 _ 3 rfl rfl rfl
  have q4 : a'.tmps.getD 4 undef = pv p := inv.done 3 _ 4 rfl rfl rfl
  have q5 : a'.tmps.getD 5 undef = Value.pointer (some ⟨p, 1, none⟩) := inv.done 4 _ 5 rfl rfl rfl
  have q6 : a'.tmps.getD 6 undef = Value.map (some x.md) := inv.done 5 _ 6 rfl rfl rfl
  have q7 : (fun _ => True) (a'.tmps.getD 7 undef)  := inv.done 6 _ 7 rfl rfl rfl
  have q8 : a'.tmps.getD 8 undef = pv p := inv.done 7 _ 8 rfl rfl rfl
  have q9 : a'.tmps.getD 9 undef = Value.pointer (some ⟨p, 2, none⟩) := inv.done 8 _ 9 rfl rfl rfl
  have q10 : a'.tmps.getD 10 undef = pv p := inv.done 10 _ 10 rfl rfl rfl
  have q11 : a'.tmps.getD 11 undef = Value.pointer (some ⟨p, 3, none⟩) := inv.done 11 _ 11 rfl rfl rfl
  clear inv
  simp only [List.filterMap_cons, List.filterMap_nil, Par.putAll, Act.put, List.setIfInBounds_toArray, List.set_cons_succ, List.set_cons_zero, q1, q2, q3, q4, q5, q6, q8, q9, q10, q11]
  clear q1 q2 q3 q4 q5 q6 q8 q9 q10 q11
  generalize a'.tmps.getD 7 undef = u7 at *
  try clear a'
  obtain ⟨m, k1, k2, k3, k4⟩ := hR.z rfl
  clear hR
  have HS : Hid (Stp B w p x (dsyS s) w') := hid (by
    have h := H.out
    refine ⟨x.synced m, ⟨k1, ?_, k2, World.ownsRow_nil _ _ _ _, h.fn, fun i hi => ?_, h.fd, h.od, ?_, ⟨h.lo.1, h.lo.2.1, Nat.le_trans HB.out k3, h.lo.2.2.2⟩, HG.out⟩, k4.mono (by intro q hq; obtain rfl : q = p := (by simpa using hq); simp [DX.blk]), k4.below (by intro q hq; obtain rfl : q = p := (by simpa using hq); exact h.lo.1) HB.out, fun q hq => ?_⟩
    · exact h.dr.fr k4 (by simpa using Ne.symm h.p_md)
    · obtain ⟨a, b⟩ := h.fi i hi
      refine ⟨(k4.block _ (Array.getElem?_eq_some_iff.1 a).1 (by simpa using Ne.symm (h.p_bk hi))).trans a, ownsRow_fr b k4 fun q hq hq2 => ?_⟩
      obtain rfl : q = p := by simpa using hq2
      exact row_no b h.hd (by intro cs e; simp at e) hq
    · obtain ⟨es, ck, hb⟩ := h.dr.block
      have := (Array.getElem?_eq_some_iff.1 hb).1
      show x.md ≠ m
      omega
    · simp only [DX.blk, DX.synced, List.mem_cons, List.mem_append] at hq ⊢
      rcases hq with h | h | h | (h | h) | h
      · exact .inl (.inl h)
      · exact .inl (.inr (.inl h))
      · exact .inr (by omega)
      · simp [oB, Value.ownBlock] at h
      · exact .inl (.inr (.inr (.inr (.inl (.inr h)))))
      · exact .inl (.inr (.inr (.inr (.inr h)))))
  clear k1 k2 k3 k4
  go_wp2
  go_returns
  exact ⟨⟨_, rfl⟩, HS.out⟩
theorem enDS1 (args : Array Value) (w : World) : Sem.run Tryz.prog (callFunc 69 args) w = .ok (.enter 69 args) w := enter_of Tryz.func69 (by kernel_rfl) (by kernel_rfl) args w
theorem enDS2 (args : Array Value) (w : World) : Sem.run Tryz.prog (callFunc 70 args) w = .ok (.enter 70 args) w := enter_of Tryz.func70 (by kernel_rfl) (by kernel_rfl) args w
set_option maxHeartbeats 1000000 in
theorem ddsync_any {B : Nat} {w : World} {p : Nat} {x : DX} {s : PS}  (h : Dk B w p x s) (hB : B ≤ w.heap.size) (hg : Gd (dsyP s).2)  :
    Calls Tryz.prog 23 #[pv p] w fun e w' => DoR B w p x (dsyP s) e w' := by
  have E0 : Ext w (w.alloc (.cells #[pv p] 24 (0, 0))) := Ext.alloc _ _
  have b0 := Bx.new w (pv p) 24
  have HE := hid E0
  have H := hid (h.ext E0)
  have HG := hid hg
  have HB := hid hB
  obtain ⟨W0, hW0⟩ : ∃ W0, (w.alloc (.cells #[pv p] 24 (0, 0))) = W0 := ⟨_, rfl⟩
  rw [hW0] at HE H b0
  have HB0 := hid b0
  have c0 := b0.cell
  clear h hg E0 b0
  go_enter Tryz.func23, Tryz.ntmps23
  go_wp2_with fail
  clear hW0 c0
  obtain ⟨a, ha⟩ : ∃ a, w.heap.size = a := ⟨_, rfl⟩
  rw [ha] at HB0
  rw [ha]
  have n0 : a ≠ p := fun e => by have := HB0.out; rw [e] at this; have h2 := H.out.hd; unfold Bx at this; rw [this] at h2; simp at h2
  refine (ddo_any H.out (Nat.le_trans HB.out HE.out.size) 69 70 #[] #[bp a] enDS1 enDS2 (0) (fun s => { s with sure := s.dir, opn := [] })
    (fun _ w' k => ds1_any w')
    (fun h1 h2 h3 w' hD hF hbw => ?_)).mono ?_
  · have hdone := doP_done (act := (fun s => { s with sure := s.dir, opn := [] })) h1 h2 h3
    have hgd : Gd (((fun s => { s with sure := s.dir, opn := [] })) (fusS s)) := by have := HG.out; unfold dsyP at this; rw [hdone] at this; exact this
    have hB2 := Nat.le_trans (Nat.le_trans HB.out HE.out.size) hF.size
    have x0 := HB0.out.fr hF (by simpa using n0)
    exact ds2_any hD a x0 hB2 hgd
  · rintro e w2 ⟨rfl, h2⟩
    have HS : Hid (DoR B w p x (dsyP s) _ w2) := hid (DoR.ext ⟨rfl, h2⟩ HE.out HB.out)
    clear h2
    go_wp2
    go_ret
    exact HS.out
end Go.Proofs.YtijpokajhjhllaaGreatDoor

