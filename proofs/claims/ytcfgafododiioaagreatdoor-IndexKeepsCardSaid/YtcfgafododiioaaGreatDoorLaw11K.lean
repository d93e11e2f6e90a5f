/- IndexKeeps. -/
import Derived.Test.YtcfgafododiioaaGreatDoorKeeM
import Derived.Test.YtcfgafododiioaaGreatDoorIdxEe
import Derived.Test.YtcfgafododiioaaGreatDoorApI
import Derived.Laws.Rows
import Derived.Laws.Tables
set_option linter.unusedSimpArgs false
set_option linter.unusedVariables false
set_option maxRecDepth 100000
namespace Go.Proofs.YtcfgafododiioaaGreatDoor
open Go Go.RowKit Go.Tum Go.ChangeMaps Go.Sort
open Go.ParB (upd Lof)
open Go.ParE (putS slotsR slots Closed)

abbrev gI (g : Int) : Value := .int .i64 g
/-- The law's two rows, side by side with a queue. -/
structure K2 (A : Nat) (w : World) (S : List Nat) (po : Option Addr) (pn pc : Nat) (qo : Option Addr) (qc : Nat) (P : List Ai) (G : List Int) : Prop where
  n : pn = P.length
  m : pn = G.length
  pr : w.ownsRow A 40 9 (.slice po pn pc) pn (P.flatMap aicells)
  gr : w.ownsRow A 3 1 (.slice qo pn qc) pn (G.map gI)
  ps : ∀ c ∈ oB (.slice po pn pc), c ∉ S
  gs : ∀ c ∈ oB (.slice qo pn qc), c ∉ S
section
variable {A : Nat} {w w' : World} {S : List Nat} {po qo : Option Addr} {pn pc qc : Nat} {P : List Ai} {G : List Int}
theorem K2.ext (h : K2 A w S po pn pc qo qc P G) (k : Ext w w') : K2 A w' S po pn pc qo qc P G := ⟨h.n, h.m, k.owns h.pr, k.owns h.gr, h.ps, h.gs⟩
theorem K2.turn (h : K2 A w S po pn pc qo qc P G) {S' : List Nat} (f : Fr S w w') (hs : ∀ c ∈ S', c ∈ S ∨ w.heap.size ≤ c) : K2 A w' S' po pn pc qo qc P G := by
  refine ⟨h.n, h.m, ownsRow_fr h.pr f (fun q h1 h2 => h.ps q h1 h2), ownsRow_fr h.gr f (fun q h1 h2 => h.gs q h1 h2), fun c hc hm => ?_, fun c hc hm => ?_⟩
  · rcases hs c hm with k | k
    · exact h.ps c hc k
    · have := row_lt2 h.pr c hc; omega
  · rcases hs c hm with k | k
    · exact h.gs c hc k
    · have := row_lt2 h.gr c hc; omega
end
theorem isW {P : Program} {ops : Array Oper} {Q : Exit → Act → World → Prop} {r : List Oper} {a : Act} {w : World} (h : wpList P ops Q r a w) : wpList P ops Q r a w := h
theorem heldK {p : Prop} (h : p ∨ False) : p := h.elim id False.elim
theorem kinds {w : World} {B e e' s s' n m : Nat} {v u : Value} {xs ys : List Value} (h : w.ownsRow B e s v n xs) (k : w.ownsRow B e' s' u m ys) (hne : e ≠ e') : ∀ c ∈ oB v, c ∉ oB u := fun c h1 h2 => by
  obtain ⟨c1, e1⟩ := row_kind h c h1
  obtain ⟨c2, e2⟩ := row_kind k c h2
  rw [e1] at e2
  exact hne (Obj.cells.inj (Option.some.inj e2)).2.1
theorem K2.at {A : Nat} {w : World} {S : List Nat} {po qo : Option Addr} {pn pc qc : Nat} {P : List Ai} {G : List Int} (h : K2 A w S po pn pc qo qc P G) {j : Nat} (hj : j < pn) :
    ∃ qa, qo = some qa ∧ (∃ g, G[j]? = some g ∧ w.cell? (qa.add j) = some (gI g)) ∧ w.frozen? (qa.add j) = false ∧ ∀ c, K2 A (w.setCell (qa.add j) (gI c)) S po pn pc qo qc P (G.set j c) ∧ Fr (oB (.slice qo pn qc)) w (w.setCell (qa.add j) (gI c)) := by
  have hg := h.gr
  rcases hg.2 with ⟨-, h0⟩ | ⟨g, cap, cur, hv, hb, hgg, -⟩
  · omega
  simp only [Value.slice.injEq] at hv
  obtain ⟨rfl, -, rfl⟩ := hv
  have ea : (⟨g, 0, none⟩ : Addr).add j = ⟨g, j, none⟩ := by unfold Addr.add; split <;> simp_all
  have hjG : j < G.length := by have := h.m; omega
  refine ⟨⟨g, 0, none⟩, rfl, ⟨G[j], List.getElem?_eq_getElem hjG, ?_⟩, by rw [ea]; simp [World.frozen?, hgg], fun c => ?_⟩
  · obtain ⟨-, -, -, hce⟩ := Sl.cells (Sl.of_owns hg)
    exact hce _ rfl j _ (by rw [List.getElem?_map, List.getElem?_eq_getElem hjG]; rfl)
  · rw [ea]
    have f : Fr (oB (.slice (some ⟨g, 0, none⟩) pn qc)) w (w.setCell ⟨g, j, none⟩ (gI c)) := fr_setCell _ _ _ (by simp [oB, Value.ownBlock])
    refine ⟨⟨h.n, by rw [List.length_set]; exact h.m, ownsRow_fr h.pr f (kinds h.pr h.gr (by decide)), ?_, h.ps, h.gs⟩, f⟩
    have := (World.ownsRow.stored hg j (gI c)).1
    rw [List.map_set]
    exact this
theorem row_new (w : World) (cs : Array Value) (e : Nat) : ∀ j u, cs.toList[j]? = some u → (w.alloc (.cells cs e (0, 0))).cell? ((⟨w.heap.size, 0, none⟩ : Addr).add j) = some u := fun j u hu => by
  have e1 : (⟨w.heap.size, 0, none⟩ : Addr).add j = ⟨w.heap.size, j, none⟩ := by unfold Addr.add; split <;> simp_all
  rw [e1, cell_of_row _ _ _ _ _ _ (heap_alloc_new w (.cells cs e (0, 0)))]
  simpa using hu
theorem wpList_append_atK {P : Program} {ops : Array Oper} {rest : List Oper} {o : Oper} {a : Act} {w : World} {Q : Exit → Act → World → Prop} (hgd : o.guard = none) (s x : Operand) (t : Nat)
    (ho : o.op = .call { callee := .builtin .append, args := #[s, x], argTypes := #[t, t] }) (base e : Nat) {z : Value} {size bytes : Nat} (ht : P.underlying t = some (.slice e))
    (hi : (P.info? e).map (fun i => (i.zero, i.size, i.bytes)) = some (some z, size, bytes)) (hzs : z.cells.size = size) (hsz : 0 < size)
    {v : Value} {n : Nat} {xs : List Value} (hs : a.eval s = v) (hown : w.ownsRow base e size v n xs) {ad : Addr} {m c : Nat} {news : List Value} (hx : a.eval x = .slice (some ad) m c) (hl : news.length = m * size) (hnews : ∀ j u, news[j]? = some u → w.cell? (ad.add j) = some u)
    (h1 : ∀ y ∈ news, y.oneCell' = true) (N : Nat) (hN : N = n + m) (hb : N ≤ maxLen) (hbytes : N * bytes ≤ 140737488355328) (hbase : base ≤ w.heap.size)
    (h : ∀ ao cap w', w'.ownsRow base e size (.slice ao N cap) N (xs ++ news) → Fr (oB v) w w' → ((Value.slice ao N cap).ownBlock = v.ownBlock ∨ (Value.slice ao N cap).ownBlock = some w.heap.size) → wpList P ops Q rest (a.put o.dst (.slice ao N cap)) w') :
    wpList P ops Q (o :: rest) a w := by
  subst hN
  obtain ⟨i, hi1, hz, hsz2, hby⟩ := info_parts hi
  have hlt := @World.ownsRow.lt w base e size v n xs hown
  refine wpList_append_own_at _ hgd s x t ho base e i z size bytes ht hi1 hz hsz2 hby hzs hsz v n xs hs hown ad m c news hx hl hnews h1 hb hbytes hbase fun v' w' h2 h3 _ h5 => ?_
  obtain ⟨o', c', rfl⟩ := row_shape h2
  exact h o' c' w' h2 (fr_grownD h3 ((Below.refl base w).grown h3 hbase fun k hk => (hlt k hk).1)) h5
theorem K2.app {A : Nat} {w wa wb wc wd : World} {S : List Nat} {po qo po' qo' : Option Addr} {pn pc qc pc' qc' : Nat} {P : List Ai} {G : List Int} (h : K2 A w S po pn pc qo qc P G) (a : Ai) (e1 : Ext w wa) (o1 : wb.ownsRow A 40 9 (.slice po' (pn + 1) pc') (pn + 1) (P.flatMap aicells ++ aicells a))
    (f1 : Fr (oB (.slice po pn pc)) wa wb) (b1 : (Value.slice po' (pn + 1) pc').ownBlock = (Value.slice po pn pc).ownBlock ∨ (Value.slice po' (pn + 1) pc').ownBlock = some wa.heap.size) (e2 : Ext wb wc)
    (o2 : wd.ownsRow A 3 1 (.slice qo' (pn + 1) qc') (pn + 1) (G.map gI ++ [gI 0])) (f2 : Fr (oB (.slice qo pn qc)) wc wd) (b2 : (Value.slice qo' (pn + 1) qc').ownBlock = (Value.slice qo pn qc).ownBlock ∨ (Value.slice qo' (pn + 1) qc').ownBlock = some wc.heap.size) (hS : ∀ c ∈ S, c < w.heap.size) :
    K2 A wd S po' (pn + 1) pc' qo' (qc') (P ++ [a]) (G ++ [0]) ∧ Fr (oB (.slice po pn pc) ++ oB (.slice qo pn qc)) w wd := by
  have hg : wc.ownsRow A 3 1 (.slice qo pn qc) pn (G.map gI) := e2.owns (own_apart (e1.owns h.gr) (e1.owns h.pr) (by decide) f1)
  have hp : wd.ownsRow A 40 9 (.slice po' (pn + 1) pc') (pn + 1) (P.flatMap aicells ++ aicells a) := own_apart (e2.owns o1) hg (by decide) f2
  have s1 := e1.size
  have s2 := f1.size
  have s3 := e2.size
  refine ⟨⟨by rw [List.length_append, ← h.n]; rfl, by rw [List.length_append, ← h.m]; rfl, by simpa [List.flatMap_append] using hp, by simpa using o2, fun c hc hs => ?_, fun c hc hs => ?_⟩, ?_⟩
  · rcases oB_new b1 c hc with k | k
    · exact h.ps c k hs
    · have := hS c hs; omega
  · rcases oB_new b2 c hc with k | k
    · exact h.gs c k hs
    · have := hS c hs; omega
  · exact (((Ext.fr e1 : Fr (oB (.slice po pn pc) ++ oB (.slice qo pn qc)) w wa).trans (f1.mono (fun c hc => List.mem_append_left _ hc))).trans (Ext.fr e2)).trans (f2.mono (fun c hc => List.mem_append_right _ hc))
theorem K2.appN {A N : Nat} {w wa wb wc wd : World} {S : List Nat} {po qo po' qo' : Option Addr} {pn pc qc pc' qc' : Nat} {P : List Ai} {G : List Int} (hN : N = pn + 1) (h : K2 A w S po pn pc qo qc P G) (a : Ai) (e1 : Ext w wa) (o1 : wb.ownsRow A 40 9 (.slice po' N pc') N (P.flatMap aicells ++ aicells a))
    (f1 : Fr (oB (.slice po pn pc)) wa wb) (b1 : (Value.slice po' N pc').ownBlock = (Value.slice po pn pc).ownBlock ∨ (Value.slice po' N pc').ownBlock = some wa.heap.size) (e2 : Ext wb wc)
    (o2 : wd.ownsRow A 3 1 (.slice qo' N qc') N (G.map gI ++ [gI 0])) (f2 : Fr (oB (.slice qo pn qc)) wc wd) (b2 : (Value.slice qo' N qc').ownBlock = (Value.slice qo pn qc).ownBlock ∨ (Value.slice qo' N qc').ownBlock = some wc.heap.size) (hS : ∀ c ∈ S, c < w.heap.size) :
    K2 A wd S po' N pc' qo' (qc') (P ++ [a]) (G ++ [0]) ∧ Fr (oB (.slice po pn pc) ++ oB (.slice qo pn qc)) w wd := by
  subst hN
  exact h.app a e1 o1 f1 b1 e2 o2 f2 b2 hS
theorem aicells_one (q : Ai) : ∀ y ∈ aicells q, y.oneCell' = true := fun y hy => by
  simp only [aicells, List.mem_cons, List.not_mem_nil, or_false] at hy
  rcases hy with rfl | rfl | rfl | rfl | rfl | rfl | rfl | rfl | rfl <;> rfl
theorem infoIntK : (Tryz.prog.info? 3).map (fun i => (i.zero, i.size, i.bytes)) = some (some (.int .i64 0), 1, 8) := by kernel_rfl
theorem state_items (s : SR) (vi vd vc : Value) (w : World) : (Instr.field 63 (srV s vi vd vc) 5).run Tryz.prog w = .ok vi w := by kernel_rfl
theorem left_take (G : List Int) {j : Nat} (h : j < G.length) : leftG (G.take (j + 1)) = leftG (G.take j) + if G[j] = 0 then 1 else 0 := by
  unfold leftG
  rw [List.take_succ_eq_append_getElem h, List.filter_append, List.length_append]
  congr 1
  by_cases e : G[j] = 0
  · rw [if_pos e, List.filter_cons_of_pos (by simpa using e)]; rfl
  · rw [if_neg e, List.filter_cons_of_neg (by simpa using e)]; rfl
theorem row9k {w : World} {l : List Ai} {a : Addr} {n cap : Nat} (h : Sl w 9 (.slice (some a) n cap) n (l.flatMap aicells)) {j : Nat} (hj : j < l.length) :
    w.cell? ⟨(a.add (j * 9)).block, (a.add (j * 9)).off + 1, none⟩ = some (.int .i64 l[j].lane) ∧ w.cell? ⟨(a.add (j * 9)).block, (a.add (j * 9)).off + 6, none⟩ = some (vU l[j].sg) ∧ w.cell? ⟨(a.add (j * 9)).block, (a.add (j * 9)).off + 7, none⟩ = some (vU l[j].ps) ∧ w.cell? ⟨(a.add (j * 9)).block, (a.add (j * 9)).off + 8, none⟩ = some (.int .i64 l[j].size) := by
  obtain ⟨-, -, -, hc⟩ := Sl.cells h
  have hr : RowsOf w 9 (.slice (some a) l.length cap) aicells l := ⟨fun _ _ => rfl, by
    have e : n = l.length := by
      have h1 := h.1
      rw [flat_len (c := aicells) (size := 9) (fun _ _ => rfl)] at h1
      omega
    rw [← e]; exact h⟩
  obtain ⟨ao', cap', e', -, -, -, hcell⟩ := hr.open
  cases e'
  exact ⟨cell_next (hcell a rfl j hj 1 _ rfl) (by decide), cell_next (hcell a rfl j hj 6 _ rfl) (by decide), cell_next (hcell a rfl j hj 7 _ rfl) (by decide), cell_next (hcell a rfl j hj 8 _ rfl) (by decide)⟩
theorem actCells9 (q : Ai) : (aicells q).length = 9 := rfl
theorem infoAct : (Tryz.prog.info? 40).map (fun i => (i.zero, i.size, i.bytes)) = some (some (aiV ⟨0, 0, 0, 0, 0, [], 0, 0, 0⟩), 9, 80) := by kernel_rfl
set_option maxHeartbeats 16000000 in
theorem indexKeeps_law (la pa de : Int) (v : Value) (m : List Ai) (w : World) (hA : ActsI w v m) (ht : TB w) :
    Calls Tryz.prog 6 #[ccV la pa de, v] w fun e w' => e = .returned (.bool true) ∧ Ext w w' := by
  have HA := hid hA
  have HT := hid ht
  obtain ⟨hrow, hokk⟩ := hA
  obtain ⟨ao, cap, rfl, hle, hm, hnn, hcell⟩ := hrow.open
  have HNN := hid hnn
  have HC := hid hcell
  obtain ⟨W1, hW1⟩ : ∃ W, w.alloc (ccO la pa de) = W := ⟨_, rfl⟩
  have HE1 : Hid (Ext w W1) := hid (by rw [← hW1]; exact Ext.alloc _ _)
  have HB1 : Hid (W1.heap[w.heap.size]? = some (ccO la pa de)) := hid (by rw [← hW1]; exact heap_alloc_new _ _)
  have HLB : Hid (w.heap.size < W1.heap.size) := hid (by rw [← hW1]; simp)
  clear hrow hokk hcell hnn ht
  go_enter Tryz.func6, Tryz.ntmps6
  go_wp2_with fail
  clear hW1
  obtain ⟨cb, hcb⟩ : ∃ c, w.heap.size = c := ⟨_, rfl⟩
  have HCB : Hid (w.heap.size = cb) := hid hcb
  rw [hcb] at HB1
  try rw [hcb]
  clear hcb
  refine (awake11_any W1 (TBx HT.out HE1.out)).mono ?_
  rintro e w4 ⟨rfl, hx⟩
  have HX4 : Hid (Ext W1 w4) := hid hx
  have HE4 := hid (HE1.out.trans hx)
  clear hx
  obtain ⟨x0, x1, x2, -⟩ := lk3 (HX4.out.obj HB1.out)
  go_wp2_with fail
  clear x0 x1 x2
  refine (inew_any la pa de (TBx HT.out HE4.out)).mono ?_
  rintro e w5 ⟨hn, hx⟩
  have HE5 := hid (HE4.out.trans hx)
  have HCX5 : Hid (w5.heap[cb]? = some (ccO la pa de)) := hid (hx.obj (HX4.out.obj HB1.out))
  clear hx
  obtain ⟨rc, hrc⟩ : ∃ b, rightC la pa de = b := ⟨_, rfl⟩
  rw [hrc] at hn
  clear hrc
  cases rc
  case false =>
    rw [if_neg (by simp)] at hn
    subst hn
    go_wp2
    go_returns
    exact ⟨rfl, HE5.out⟩
  rw [if_pos rfl] at hn
  obtain ⟨p, x, q, rfl, hI, hM⟩ := hn
  obtain ⟨B, hB⟩ : ∃ B, W1.heap.size = B := ⟨_, rfl⟩
  have hI0 := hI.lower HX4.out.size
  rw [hB] at hI0 HLB
  have HLBx : Hid (cb < B) := hid (by rw [← HCB.out]; exact HLB.out)
  have HI5 : Hid (IX B w5 p x q) := hid hI0
  have HKI5 := hid (KI.start hM)
  have HQ5 : Hid (XQ (300 * 0) q ∧ (q.lanes = la ∧ q.pay = pa ∧ q.del = de)) := hid ⟨hM.xq, hM.la, hM.pa, hM.de⟩
  clear hI hM hI0 hB HX4 HE4 HE1 HB1
  go_wp2_with fail
  refine (ilarge_any _ m w5 (HA.out.ext HE5.out)).mono ?_
  rintro e w6 ⟨⟨r, rfl, hr⟩, hx⟩
  have HE6 := hid (HE5.out.trans hx)
  have HI6 := hid (HI5.out.ext hx)
  have HCX6 := hid (hx.obj HCX5.out)
  clear hx HI5 HE5 HCX5
  cases r
  case true =>
    clear hr
    go_wp2
    go_returns
    exact ⟨rfl, HE6.out⟩
  have HS := hid (hr rfl)
  clear hr
  go_wp2
  obtain ⟨A, hA⟩ : ∃ a, w6.heap.size = a := ⟨_, rfl⟩
  have HAS : Hid (w.heap.size < A ∧ cb < A) := hid (by have := (Array.getElem?_eq_some_iff.1 HCX6.out).1; have := HCB.out; omega)
  have HAL : Hid (A ≤ w6.heap.size) := hid (Nat.le_of_eq hA.symm)
  have H26 : Hid (K2 A w6 (x.blk p) none 0 0 none 0 [] []) := hid ⟨rfl, rfl, World.ownsRow_nil _ _ _ _, World.ownsRow_nil _ _ _ _, fun c hc => by simp [oB, Value.ownBlock] at hc, fun c hc => by simp [oB, Value.ownBlock] at hc⟩
  clear hA
  go_loopw [7, 8, 31] (fun pv gv i wr => ∃ (k : Nat) (x : XP) (q : QR) (P : List Ai) (G : List Int) (po : Option Addr) (pn pc : Nat) (qo : Option Addr) (qc : Nat), k ≤ m.length ∧ i = .int .i64 (k : Int) ∧ pv = .slice po pn pc ∧ gv = .slice qo pn qc ∧ Hid (IX B wr p x q) ∧ Hid (XQ (300 * k) q ∧ (q.lanes = la ∧ q.pay = pa ∧ q.del = de)) ∧ Hid (KI P G q ∧ P.length ≤ k) ∧ Hid (K2 A wr (x.blk p) po pn pc qo qc P G) ∧ Hid (Ext w wr) ∧ Hid (wr.heap[cb]? = some (ccO la pa de)) ∧ Hid (A ≤ wr.heap.size)) (fun _ _ i _ => m.length - (intOf i).toNat)
  case atStart => exact ⟨0, x, q, [], [], none, 0, 0, none, 0, Nat.zero_le _, rfl, rfl, rfl, HI6, HQ5, hid ⟨HKI5.out, Nat.le_refl _⟩, H26, HE6, HCX6, HAL⟩
  case round =>
    clear HI6 HQ5 HE6 HCX6 HKI5 H26 HAL x q
    obtain ⟨k, x, q, P, G, po, pn, pc, qo, qc, hk, rfl, rfl, rfl, HI, HQ, HKI, H2, HE, HCX, HAL⟩ := hrel
    by_cases hlt : k < m.length
    · obtain ⟨a0, rfl⟩ := HNN.out (by omega)
      have c0 := cell_first (HE.out.cell (HC.out a0 rfl k hlt 0 _ rfl))
      have c1 := cell_next (HE.out.cell (HC.out a0 rfl k hlt 1 _ rfl)) (by decide)
      have c2 := cell_next (HE.out.cell (HC.out a0 rfl k hlt 2 _ rfl)) (by decide)
      have c3 := cell_next (HE.out.cell (HC.out a0 rfl k hlt 3 _ rfl)) (by decide)
      have c4 := cell_next (HE.out.cell (HC.out a0 rfl k hlt 4 _ rfl)) (by decide)
      have c5 := cell_next (HE.out.cell (HC.out a0 rfl k hlt 5 _ rfl)) (by decide)
      have c6 := cell_next (HE.out.cell (HC.out a0 rfl k hlt 6 _ rfl)) (by decide)
      have c7 := cell_next (HE.out.cell (HC.out a0 rfl k hlt 7 _ rfl)) (by decide)
      have c8 := cell_next (HE.out.cell (HC.out a0 rfl k hlt 8 _ rfl)) (by decide)
      have HOK := hid (HA.out.2 m[k] (List.getElem_mem hlt))
      have HSN := hid (HS.out.2 m[k] (List.getElem_mem hlt))
      have HLM := hid HS.out.1
      obtain ⟨aq, haq⟩ : ∃ z, m[k] = z := ⟨_, rfl⟩
      rw [haq] at c0 c1 c2 c3 c4 c5 c6 c7 c8 HOK HSN
      clear haq
      obtain ⟨dn, lane, many, aid, an, name, asg, aps, asz⟩ := aq
      dsimp only at c0 c1 c2 c3 c4 c5 c6 c7 c8
      have hi1 : decide ((k : Int) < m.length) = true := by simp; omega
      have HKM := hid hlt
      obtain ⟨w5, hw5⟩ : ∃ W, wr.alloc (.cells #[.int .i64 dn, .int .i64 lane, .int .i64 many, vU aid, vU an, vN name, vU asg, vU aps, .int .i64 asz] 40 (0, 0)) = W := ⟨_, rfl⟩
      have e5 : Ext wr w5 := by rw [← hw5]; exact Ext.alloc _ _
      have HB5 : Hid (w5.heap[wr.heap.size]? = some (.cells #[.int .i64 dn, .int .i64 lane, .int .i64 many, vU aid, vU an, vN name, vU asg, vU aps, .int .i64 asz] 40 (0, 0))) := hid (by rw [← hw5]; exact heap_alloc_new _ _)
      have HI5 := hid (HI.out.ext e5)
      have HE5 := hid (HE.out.trans e5)
      have HCX5 := hid (e5.obj HCX.out)
      have H25 := hid (H2.out.ext e5)
      have HAL5 := hid (Nat.le_trans HAL.out e5.size)
      have HLO5 : Hid ((∀ a ∈ x.blk p, a < wr.heap.size) ∧ (∀ a ∈ oB (.slice po pn pc), a < wr.heap.size) ∧ (∀ a ∈ oB (.slice qo pn qc), a < wr.heap.size) ∧ wr.heap.size < w5.heap.size ∧ A ≤ wr.heap.size) := hid ⟨fun a ha => (HI.out.blk_lo a ha).2, row_lt2 H2.out.pr, row_lt2 H2.out.gr, by rw [← hw5]; simp, HAL.out⟩
      clear e5 hlt hk HI HE HCX H2 HAL
      obtain ⟨d0, d1, d2, d3, d4, d5, d6, d7, d8, -⟩ := blk9 HB5.out
      go_wp2_with fail
      clear hw5 c0 c1 c2 c3 c4 c5 c6 c7 c8 hi1 d0 d1 d2 d3 d4 d5 d6 d7 d8
      obtain ⟨b8, hb8⟩ : ∃ b, wr.heap.size = b := ⟨_, rfl⟩
      rw [hb8] at HB5 HLO5
      try rw [hb8]
      clear hb8
      obtain ⟨R, hR⟩ : ∃ R, actI q ⟨dn, lane, many, aid, an, name, asg, aps, asz⟩ = R := ⟨_, rfl⟩
      have hcall := do_any11 ⟨dn, lane, many, aid, an, name, asg, aps, asz⟩ HI5.out HI5.out.bs HQ.out.1.wi (by have := HKM.out; have := HLM.out; omega) (TBx HT.out HE5.out) (Nat.le_trans HSN.out (by decide)) HOK.out.mn
      have hq9 := HQ.out.1.act (by have := HKM.out; have := HLM.out; omega) ⟨dn, lane, many, aid, an, name, asg, aps, asz⟩
      have hs9 := Set3.act q ⟨dn, lane, many, aid, an, name, asg, aps, asz⟩
      have hka := keeps_act HQ.out.1 (by have := HKM.out; have := HLM.out; omega) HKI.out.1 (by have := HKI.out.2; have := HKM.out; have := HLM.out; omega) ⟨dn, lane, many, aid, an, name, asg, aps, asz⟩
      rw [hR] at hcall hq9 hs9 hka
      clear hR
      obtain ⟨⟨E, Id, ⟨t0, t1, t2, t3, t4, t5, t6, t7, t8, t9⟩, Many, Is, Ids⟩, q9⟩ := R
      dsimp only at hq9 hs9 hka
      have HQ9 : Hid (XQ (300 * k + 300) q9 ∧ (q9.lanes = la ∧ q9.pay = pa ∧ q9.del = de)) := hid ⟨hq9, hs9.1.trans HQ.out.2.1, hs9.2.1.trans HQ.out.2.2.1, hs9.2.2.trans HQ.out.2.2.2⟩
      have HKA := hid hka
      clear hq9 hs9 HQ hka
      refine hcall.mono ?_
      clear hcall
      rintro e w9 ⟨⟨ro, rcap, rfl, hown⟩, ⟨x9, i9, f9, n9⟩⟩
      have HE9 : Hid (Ext w w9) := hid (Below.trans HE5.out (f9.below (fun a ha => by have := HI5.out.blo a ha; have := HLB.out; omega) HE5.out.size))
      have hcx9 := (f9.block cb (Array.getElem?_eq_some_iff.1 HCX5.out).1 (fun hm => by have := HI5.out.blo _ hm; have h9 := HLB.out; have := HCB.out; omega)).trans HCX5.out
      have hb9 := (f9.block b8 (Array.getElem?_eq_some_iff.1 HB5.out).1 (fun hm => by have := HLO5.out.1 _ hm; omega)).trans HB5.out
      have h29 := H25.out.turn f9 n9
      have hal9 := Nat.le_trans HAL5.out f9.size
      have hsz9 := f9.size
      obtain ⟨w10, hw10⟩ : ∃ W, w9.alloc (.cells #[.int .i64 E, vU Id, vU t0, .int .i64 t1, .int .i64 t2, .int .i64 t3, vU t4, vU t5, vU t6, vU t7, vU t8, .int .i64 t9, .int .i64 Many, .bool Is, .slice ro Ids.length rcap] 49 (0, 0)) = W := ⟨_, rfl⟩
      have hb10 := heap_alloc_new w9 (.cells #[.int .i64 E, vU Id, vU t0, .int .i64 t1, .int .i64 t2, .int .i64 t3, vU t4, vU t5, vU t6, vU t7, vU t8, .int .i64 t9, .int .i64 Many, .bool Is, .slice ro Ids.length rcap] 49 (0, 0))
      have e10 := Ext.alloc w9 (.cells #[.int .i64 E, vU Id, vU t0, .int .i64 t1, .int .i64 t2, .int .i64 t3, vU t4, vU t5, vU t6, vU t7, vU t8, .int .i64 t9, .int .i64 Many, .bool Is, .slice ro Ids.length rcap] 49 (0, 0))
      rw [hw10] at hb10 e10
      have HB10 : Hid (w10.heap[w9.heap.size]? = some (.cells #[.int .i64 E, vU Id, vU t0, .int .i64 t1, .int .i64 t2, .int .i64 t3, vU t4, vU t5, vU t6, vU t7, vU t8, .int .i64 t9, .int .i64 Many, .bool Is, .slice ro Ids.length rcap] 49 (0, 0))) := hid hb10
      have HI10 := hid (i9.ext e10)
      have HE10 := hid (HE9.out.trans e10)
      have HB8 := hid (e10.obj hb9)
      have HCX10 := hid (e10.obj hcx9)
      have H210 := hid (h29.ext e10)
      have HAL10 := hid (Nat.le_trans hal9 e10.size)
      have HLO10 : Hid ((∀ a ∈ oB (.slice po pn pc), a < b8) ∧ (∀ a ∈ oB (.slice qo pn qc), a < b8) ∧ b8 < w9.heap.size ∧ w9.heap.size < w10.heap.size ∧ A ≤ b8) := hid (by have h1 := HLO5.out; have h3 := (Array.getElem?_eq_some_iff.1 hb10).1; exact ⟨h1.2.1, h1.2.2.1, by omega, h3, by omega⟩)
      clear e10 hb10 hown i9 f9 n9 hcx9 hb9 h29 hal9 hsz9 HI5 HE5 HE9 HB5 HLO5 HCX5 H25 HAL5
      have HPN : Hid (pn ≤ 260) := hid (by have h1 := H210.out.n; have h2 := HKI.out.2; have := HKM.out; have := HLM.out; omega)
      obtain ⟨o0, o1, o2, o3, o4, o5, o6, o7, o8, o9, o10, o11, o12, o13, o14, -⟩ := blk15 HB10.out
      obtain ⟨d0, d1, d2, d3, d4, d5, d6, d7, d8, -⟩ := blk9 HB8.out
      by_cases hE : E = 0
      · have hE1 : (E != 0) = false := by simpa using hE
        by_cases h0 : dn = 0
        · subst h0
          obtain ⟨hid0, hki0⟩ := HKA.out.pt hE rfl
          have HK8 := hid hki0
          dsimp only at hid0
          have HID := hid hid0
          clear hE hki0 hid0
          obtain ⟨N, hN⟩ : ∃ N, pn + 1 = N := ⟨_, rfl⟩
          have HNE : Hid (N = pn + 1) := hid hN.symm
          clear hN
          go_wp2_with (at_builtin; refine heldK ?_)
          refine Or.inl ?_
          refine wpList_append_atK rfl (.tmp 46) (.tmp 48) 24 rfl A 40 Tryz.underlying24 infoAct rfl (by decide) rfl ((Ext.alloc w10 _).owns H210.out.pr) rfl (actCells9 (⟨0, lane, many, aid, an, name, asg, aps, asz⟩ : Ai)) (row_new w10 _ _) (aicells_one (⟨0, lane, many, aid, an, name, asg, aps, asz⟩ : Ai)) N HNE.out (by have := HPN.out; have := HNE.out; simp [maxLen]; omega) (by have := HPN.out; have := HNE.out; omega) (by have := HAL10.out; rw [World.size_alloc]; omega) ?_
          intro po' pc' wB o1a f1a b1a
          have O1 := hid o1a
          have F1 := hid f1a
          have B1 := hid b1a
          have HALB : Hid (A ≤ wB.heap.size) := hid (by have h1 := HAL10.out; have h2 := f1a.size; rw [World.size_alloc] at h2; omega)
          clear o1a f1a b1a hw10
          go_wp2_with (at_builtin; refine heldK ?_)
          refine Or.inl ?_
          refine wpList_append_atK rfl (.tmp 50) (.tmp 51) 67 rfl A 3 Tryz.underlying67 infoIntK rfl (by decide) rfl ((Ext.alloc wB _).owns (own_apart ((Ext.alloc w10 _).owns H210.out.gr) ((Ext.alloc w10 _).owns H210.out.pr) (by decide) F1.out)) rfl (news := [gI 0]) rfl (row_new wB _ _) (by intro y hy; simp at hy; subst hy; rfl) N HNE.out (by have := HPN.out; have := HNE.out; simp [maxLen]; omega) (by have := HPN.out; have := HNE.out; omega) (by have := HALB.out; rw [World.size_alloc]; omega) ?_
          intro qo' qc' w8 o2a f2a b2a
          obtain ⟨h28, f8⟩ := K2.appN HNE.out H210.out (⟨0, lane, many, aid, an, name, asg, aps, asz⟩ : Ai) (Ext.alloc w10 _) O1.out F1.out B1.out (Ext.alloc wB _) o2a f2a b2a (fun c hc => (HI10.out.blk_lo c hc).2)
          have H28 := hid h28
          have hnS : ∀ c ∈ oB (.slice po pn pc) ++ oB (.slice qo pn qc), c ∉ x9.blk p := fun c hc => by
            rcases List.mem_append.1 hc with hc | hc
            · exact H210.out.ps c hc
            · exact H210.out.gs c hc
          have hA8 : ∀ c ∈ oB (.slice po pn pc) ++ oB (.slice qo pn qc), A ≤ c ∧ c < b8 := fun c hc => by
            have h1 := HLO10.out
            rcases List.mem_append.1 hc with hc | hc
            · exact ⟨row_lo H210.out.pr c hc, h1.1 c hc⟩
            · exact ⟨row_lo H210.out.gr c hc, h1.2.1 c hc⟩
          have HI8 := hid (HI10.out.off_fr f8 hnS)
          have HE8 : Hid (Ext w w8) := hid (Below.trans HE10.out (f8.below (fun a ha => by have := (hA8 a ha).1; have := HAS.out; omega) HE10.out.size))
          have HCX8 := hid ((f8.block cb (Array.getElem?_eq_some_iff.1 HCX10.out).1 (fun hm => by have := (hA8 _ hm).1; have := HAS.out; omega)).trans HCX10.out)
          have HAL8 := hid (Nat.le_trans HAL10.out f8.size)
          have hb10 := (f8.block w9.heap.size (by have := HLO10.out; omega) (fun hm => by have := (hA8 _ hm).2; have := HLO10.out; omega)).trans HB10.out
          have HPK8 : Hid ((P ++ [(⟨0, lane, many, aid, an, name, asg, aps, asz⟩ : Ai)]).length ≤ k + 1) := hid (by have := HKI.out.2; rw [List.length_append, List.length_singleton]; omega)
          clear o0 o1 o2 o3 o4 o5 o6 o7 o8 o9 o10 o11 o12 o13 o14 d0 d1 d2 d3 d4 d5 d6 d7 d8 o2a f2a b2a h28 f8 hnS hA8
          obtain ⟨o0, o1, o2, o3, o4, o5, o6, o7, o8, o9, o10, o11, o12, o13, o14, -⟩ := blk15 hb10
          have d0 := o0
          have d1 := o0
          have d2 := o0
          have d3 := o0
          have d4 := o0
          have d5 := o0
          have d6 := o0
          have d7 := o0
          have d8 := o0
          clear hb10
          have hcv : IntKind.u64.wrap (N : Int) = (Id.toNat : Int) := by
            have h1 := HID.out
            have h2 := HNE.out
            have h3 := H210.out.n
            rw [IntKind.wrap_u64]
            have h4 := Id.toNat_lt
            omega
          have hneq : ((Id.toNat : Int) != (Id.toNat : Int)) = false := by simp
          go_wp2_with fail
          clear hcv hneq
          as_aux_lemma =>
            have HSB : Hid (N ≤ 261) := hid (by first | (have := HPN.out; omega) | omega | (have := HPN.out; have := HNE.out; omega))
            clear o0 o1 o2 o3 o4 o5 o6 o7 o8 o9 o10 o11 o12 o13 o14 d0 d1 d2 d3 d4 d5 d6 d7 d8
            go_loopw [12, 121] (fun lv iv wr => ∃ j : Nat, j ≤ N ∧ iv = .int .i64 (j : Int) ∧ lv = .int .i64 ((leftG ((G ++ [0]).take j) : Nat) : Int) ∧ Hid (Ext w8 wr)) (fun _ iv _ => N - (intOf iv).toNat)
            case atStart => exact ⟨0, Nat.zero_le _, rfl, rfl, hid (Ext.refl _)⟩
            case round =>
              obtain ⟨j, hj, rfl, rfl, HX⟩ := hrel
              by_cases hlt : j < N
              · have hi1 : decide ((j : Int) < (N : Int)) = true := by simp; omega
                have hjP : j < (P ++ [(⟨0, lane, many, aid, an, name, asg, aps, asz⟩ : Ai)]).length := by have := H28.out.n; omega
                have hjG : j < (G ++ [0]).length := by have := H28.out.m; omega
                have HJ := hid hlt
                have hjb : j ≤ 260 := by have := HSB.out; omega
                obtain ⟨i8, hi8⟩ : ∃ i : UInt64, UInt64.ofNat (j + 1) = i := ⟨_, rfl⟩
                have hi8n : i8.toNat = j + 1 := by rw [← hi8, UInt64.toNat_ofNat']; omega
                have hcv : IntKind.u64.wrap ((j : Int) + 1) = (i8.toNat : Int) := by
                  have : IntKind.u64.wrap ((j : Int) + 1) = ((j : Int) + 1) % 18446744073709551616 := rfl
                  rw [this, hi8n]; omega
                have hget := get_any i8 (HI8.out.ext HX.out)
                have hlk := HK8.out.lk j hjP
                rw [hi8] at hlk
                obtain ⟨g, hg⟩ : ∃ g, (G ++ [0])[j] = g := ⟨_, rfl⟩
                have hg2 : (G ++ [0])[j]? = some g := by rw [List.getElem?_eq_getElem hjG, hg]
                have hg01 := HK8.out.g1 g (by rw [← hg]; exact List.getElem_mem hjG)
                have htk := left_take (G ++ [0]) hjG
                rw [hg] at htk
                have HTK := hid htk
                rw [hg2] at hlk
                obtain ⟨-, -, hon, hce⟩ := Sl.cells (Sl.of_owns (HX.out.owns H28.out.gr))
                obtain ⟨qa, rfl⟩ : ∃ a, qo' = some a := by
                  cases qo' with
                  | none => obtain ⟨h9, -⟩ := Sl.cells (Sl.of_owns H28.out.gr); have := hon rfl; omega
                  | some a => exact ⟨a, rfl⟩
                have hcg := hce qa rfl j (gI g) (by rw [List.getElem?_map, hg2]; rfl)
                clear hg hg2 htk hi8 hon hce hlt hj
                rcases hg01 with rfl | rfl
                · rw [if_pos rfl] at hlk
                  obtain ⟨z, hz⟩ : ∃ z, look q9 i8 = some z := by
                    cases hz : look q9 i8 with
                    | none => rw [hz] at hlk; cases hlk
                    | some z => exact ⟨z, rfl⟩
                  rw [hz] at hlk
                  have hcore := Option.some.inj hlk
                  have hitr := HQ9.out.1.wi.wq.it _ (look_in hz)
                  have hlf := hitr.lf
                  dsimp only at hlf
                  rw [HQ9.out.2.2.2] at hlf
                  have hz9 : q9.its.lookup i8 = some z := hz
                  rw [hz9] at hget
                  have hPr := Sl.of_owns (HX.out.owns H28.out.pr)
                  obtain ⟨-, -, hon, hce⟩ := Sl.cells hPr
                  obtain ⟨pa9, rfl⟩ : ∃ a, po' = some a := by
                    cases po' with
                    | none => obtain ⟨h9, -⟩ := Sl.cells (Sl.of_owns H28.out.pr); have := hon rfl; have := HJ.out; omega
                    | some a => exact ⟨a, rfl⟩
                  obtain ⟨r1, r6, r7, r8⟩ := row9k hPr hjP
                  obtain ⟨pz, hpz⟩ : ∃ z, (P ++ [(⟨0, lane, many, aid, an, name, asg, aps, asz⟩ : Ai)])[j] = z := ⟨_, rfl⟩
                  rw [hpz] at r1 r6 r7 r8 hcore
                  obtain ⟨u1, u2, u3, u4, u5, u6, u7, u8, u9⟩ := pz
                  obtain ⟨zi, zl, zs, zc, zd, zt, zu, zg, zp, zz⟩ := z
                  simp only [core, Prod.mk.injEq] at hcore
                  obtain ⟨rfl, rfl, rfl, rfl⟩ := hcore
                  dsimp only at r1 r6 r7 r8 hlf
                  have hd1 : decide (de < zc) = false := by simp; omega
                  have HCT : Hid (zs = 4 → zc = de) := hid (by omega)
                  have hva : vU i8 = .int .u64 ((j : Int) + 1) := by show Value.int _ _ = _; rw [hi8n]; rfl
                  rw [hva] at hget
                  have HGET : Hid (Calls Tryz.prog 30 #[pv p, .int .u64 ((j : Int) + 1)] wr fun e w' => e = .returned (.tuple #[itV ⟨zi, zl, zs, zc, zd, zt, zu, zg, zp, zz⟩, .bool true]) ∧ Ext wr w') := hid hget
                  obtain ⟨L0, hL0⟩ : ∃ n, leftG ((G ++ [0]).take j) = n := ⟨_, rfl⟩
                  have HTK1 : Hid (leftG ((G ++ [0]).take (j + 1)) = L0 + 1) := hid (by have := HTK.out; rw [if_pos rfl, hL0] at this; exact this)
                  have hLb : L0 ≤ 260 := by rw [← hL0]; exact Nat.le_trans (List.length_filter_le _ _) (by rw [List.length_take]; omega)
                  rw [hL0]
                  have hx2 := (lk3 (HX.out.obj HCX8.out)).2.2.1
                  clear hlk hz hz9 hlf hitr hpz hon hce hPr hget hva hcv hi8n hL0 HTK
                  go_wp2_with fail
                  refine HGET.out.mono ?_
                  rintro e w12 ⟨rfl, hx⟩
                  have hcg2 := fun o => (Ext.alloc w12 o).cell (hx.cell hcg)
                  have hr1 := fun o => (Ext.alloc w12 o).cell (hx.cell r1)
                  have hr6 := fun o => (Ext.alloc w12 o).cell (hx.cell r6)
                  have hr7 := fun o => (Ext.alloc w12 o).cell (hx.cell r7)
                  have hr8 := fun o => (Ext.alloc w12 o).cell (hx.cell r8)
                  have hcf := fun o => (Ext.alloc w12 o).cell (hx.cell hx2)
                  have HX12 := hid (HX.out.trans hx)
                  clear hx hcg r1 r6 r7 r8 hx2 HGET hi1
                  by_cases h4 : zs = 4
                  · obtain rfl := HCT.out h4
                    subst h4
                    go_wp2_with fail
                    go_quiet (fail)
                    go_wp2
                    clear hcg2 hr1 hr6 hr7 hr8 hcf
                    go_roundw
                    case rel => exact ⟨j + 1, HJ.out, by go_num, congrArg (Value.int .i64) (by have := HTK1.out; omega), hid (HX12.out.trans ((Ext.alloc _ _).trans (Ext.drewN _ _)))⟩
                    case measure => simp [intOf]; have := HJ.out; omega
                  · have hs4 : (zs == (4 : Int)) = false := by simpa using h4
                    clear h4
                    go_wp2_with fail
                    go_quiet (fail)
                    go_wp2
                    clear hcg2 hr1 hr6 hr7 hr8 hcf
                    go_roundw
                    case rel => exact ⟨j + 1, HJ.out, by go_num, congrArg (Value.int .i64) (by have := HTK1.out; omega), hid (HX12.out.trans ((Ext.alloc _ _).trans (Ext.drewN _ _)))⟩
                    case measure => simp [intOf]; have := HJ.out; omega
                · rw [if_neg (by simp)] at hlk
                  have hz9 : q9.its.lookup i8 = none := by
                    have h9 : look q9 i8 = none := by
                      cases hz : look q9 i8 with
                      | none => rfl
                      | some z => rw [hz] at hlk; cases hlk
                    exact h9
                  rw [hz9] at hget
                  have hva : vU i8 = .int .u64 ((j : Int) + 1) := by show Value.int _ _ = _; rw [hi8n]; rfl
                  rw [hva] at hget
                  have HGET : Hid (Calls Tryz.prog 30 #[pv p, .int .u64 ((j : Int) + 1)] wr fun e w' => e = .returned (.tuple #[itV it0, .bool false]) ∧ Ext wr w') := hid hget
                  have HTK1 : Hid (leftG ((G ++ [0]).take (j + 1)) = leftG ((G ++ [0]).take j)) := hid (by have := HTK.out; rw [if_neg (by decide)] at this; exact this)
                  clear hlk hz9 hget hva hcv hi8n HTK
                  go_wp2_with fail
                  refine HGET.out.mono ?_
                  rintro e w12 ⟨rfl, hx⟩
                  have hcg2 := fun o => (Ext.alloc w12 o).cell (hx.cell hcg)
                  have HX12 := hid (HX.out.trans hx)
                  clear hx hcg HGET hi1
                  go_wp2
                  go_roundw
                  case rel => exact ⟨j + 1, HJ.out, by go_num, by rw [HTK1.out], hid (HX12.out.trans (Ext.alloc _ _))⟩
                  case measure => simp [intOf]; have := HJ.out; omega
              · obtain rfl : j = N := by omega
                have hki : decide (j < j) = false := by simp
                obtain ⟨s, hs⟩ : ∃ s, stateQ q9 = s := ⟨_, rfl⟩
                have hsl : s.items.length = leftG ((G ++ [0]).take j) := by
                  have h1 := HK8.out.its HQ9.out.1 (by have := HSB.out; have := H28.out.n; omega)
                  have h2 := H28.out.m
                  rw [List.take_of_length_le (by omega), ← h1, ← hs]
                  show (sortN (q9.its.map Prod.snd)).length = _
                  rw [(sortN_perm _).length_eq, List.length_map]
                have hst := st_any (HI8.out.ext HX.out) HQ9.out.1 (TBx HT.out (HE8.out.trans HX.out)) hs
                have HST := hid hst
                have hne : (((s.items.length : Nat) : Int) != ((leftG ((G ++ [0]).take j) : Nat) : Int)) = false := by rw [hsl]; simp
                have HNE := hid hne
                obtain ⟨L1, hL1⟩ : ∃ n, leftG ((G ++ [0]).take j) = n := ⟨_, rfl⟩
                rw [hL1] at HNE
                rw [hL1]
                clear hlt hj hst hs hsl hne hL1
                go_wp2_with fail
                clear hki
                refine HST.out.mono ?_
                rintro e w12 ⟨⟨vi, vd, vc, rfl, ho⟩, hx⟩
                obtain ⟨ga, gac, rfl⟩ := row_shape ho.it
                have hfs := state_items s (.slice ga s.items.length gac) vd vc w12
                obtain ⟨V, hV⟩ : ∃ V, srV s (.slice ga s.items.length gac) vd vc = V := ⟨_, rfl⟩
                rw [hV] at hfs
                try rw [hV]
                have hne := HNE.out
                have HX12 := hid (HX.out.trans hx)
                clear ho hx hV HST
                go_wp2
                go_roundw
                case rel => exact ⟨k + 1, x9, q9, (P ++ [(⟨0, lane, many, aid, an, name, asg, aps, asz⟩ : Ai)]), (G ++ [0]), po', _, pc', qo', qc', HKM.out, by go_num, rfl, rfl, hid (HI8.out.ext HX12.out), hid ⟨HQ9.out.1.mono (by omega), HQ9.out.2⟩, hid ⟨HK8.out, HPK8.out⟩, hid (H28.out.ext HX12.out), hid (HE8.out.trans HX12.out), hid (HX12.out.obj HCX8.out), hid (Nat.le_trans HAL8.out HX12.out.size)⟩
                case measure => simp [intOf]; have := HKM.out; omega
        by_cases h2 : dn = 2
        · subst h2
          obtain ⟨j0, hj0, hid0, hg0, hki0⟩ := HKA.out.ak hE rfl
          have HK8 := hid hki0
          dsimp only at hid0
          have hva0 : vU t0 = .int .u64 ((j0 : Int) + 1) := by show Value.int _ _ = _; rw [hid0]; rfl
          have hjn : j0 < pn := by have := H210.out.n; omega
          obtain ⟨qa0, rfl, ⟨g0, hg1, hc1⟩, hfz, hset⟩ := H210.out.at hjn
          rw [hg0] at hg1
          obtain rfl := Option.some.inj hg1
          have HSET := hid (hset 1)
          rw [hva0] at o2
          have hd1 : decide ((pn : Int) < (j0 : Int) + 1) = false := by simp; omega
          have hi0 : decide ((j0 : Int) < (pn : Int)) = true := by simp; omega
          have hpb : pn ≤ 260 := HPN.out
          clear h0 hset hg0 hg1 hki0 hid0 hva0 hE
          go_wp2_with fail
          clear hw10 hc1 hfz hd1 hi0 hpb hE1
          obtain ⟨w8, hw8⟩ : ∃ W, w10.setCell (qa0.add j0) (gI 1) = W := ⟨_, rfl⟩
          have hst := HSET.out
          rw [hw8] at hst
          obtain ⟨h8, f8⟩ := hst
          try rw [hw8]
          have HI8 := hid (HI10.out.off_fr f8 (fun a ha => H210.out.gs a ha))
          have hlo8 := row_lo H210.out.gr
          have HE8 : Hid (Ext w w8) := hid (Below.trans HE10.out (f8.below (fun a ha => by have := hlo8 a ha; have := HAS.out; omega) HE10.out.size))
          have HCX8 := hid ((f8.block cb (Array.getElem?_eq_some_iff.1 HCX10.out).1 (fun hm => by have := hlo8 _ hm; have := HAS.out; omega)).trans HCX10.out)
          have HAL8 := hid (Nat.le_trans HAL10.out f8.size)
          have H28 := hid h8
          have HPK8 : Hid (P.length ≤ k + 1) := hid (by have := HKI.out.2; omega)
          clear hw8 h8 f8 hlo8 HSET hjn hj0
          as_aux_lemma =>
            have HSB : Hid (pn ≤ 261) := hid (by first | (have := HPN.out; omega) | omega | (have := HPN.out; have := HNE.out; omega))
            clear o0 o1 o2 o3 o4 o5 o6 o7 o8 o9 o10 o11 o12 o13 o14 d0 d1 d2 d3 d4 d5 d6 d7 d8
            go_loopw [12, 121] (fun lv iv wr => ∃ j : Nat, j ≤ pn ∧ iv = .int .i64 (j : Int) ∧ lv = .int .i64 ((leftG ((G.set j0 1).take j) : Nat) : Int) ∧ Hid (Ext w8 wr)) (fun _ iv _ => pn - (intOf iv).toNat)
            case atStart => exact ⟨0, Nat.zero_le _, rfl, rfl, hid (Ext.refl _)⟩
            case round =>
              obtain ⟨j, hj, rfl, rfl, HX⟩ := hrel
              by_cases hlt : j < pn
              · have hi1 : decide ((j : Int) < (pn : Int)) = true := by simp; omega
                have hjP : j < P.length := by have := H28.out.n; omega
                have hjG : j < (G.set j0 1).length := by have := H28.out.m; omega
                have HJ := hid hlt
                have hjb : j ≤ 260 := by have := HSB.out; omega
                obtain ⟨i8, hi8⟩ : ∃ i : UInt64, UInt64.ofNat (j + 1) = i := ⟨_, rfl⟩
                have hi8n : i8.toNat = j + 1 := by rw [← hi8, UInt64.toNat_ofNat']; omega
                have hcv : IntKind.u64.wrap ((j : Int) + 1) = (i8.toNat : Int) := by
                  have : IntKind.u64.wrap ((j : Int) + 1) = ((j : Int) + 1) % 18446744073709551616 := rfl
                  rw [this, hi8n]; omega
                have hget := get_any i8 (HI8.out.ext HX.out)
                have hlk := HK8.out.lk j hjP
                rw [hi8] at hlk
                obtain ⟨g, hg⟩ : ∃ g, (G.set j0 1)[j] = g := ⟨_, rfl⟩
                have hg2 : (G.set j0 1)[j]? = some g := by rw [List.getElem?_eq_getElem hjG, hg]
                have hg01 := HK8.out.g1 g (by rw [← hg]; exact List.getElem_mem hjG)
                have htk := left_take (G.set j0 1) hjG
                rw [hg] at htk
                have HTK := hid htk
                rw [hg2] at hlk
                obtain ⟨-, -, hon, hce⟩ := Sl.cells (Sl.of_owns (HX.out.owns H28.out.gr))
                have hcg := hce qa0 rfl j (gI g) (by rw [List.getElem?_map, hg2]; rfl)
                clear hg hg2 htk hi8 hon hce hlt hj
                rcases hg01 with rfl | rfl
                · rw [if_pos rfl] at hlk
                  obtain ⟨z, hz⟩ : ∃ z, look q9 i8 = some z := by
                    cases hz : look q9 i8 with
                    | none => rw [hz] at hlk; cases hlk
                    | some z => exact ⟨z, rfl⟩
                  rw [hz] at hlk
                  have hcore := Option.some.inj hlk
                  have hitr := HQ9.out.1.wi.wq.it _ (look_in hz)
                  have hlf := hitr.lf
                  dsimp only at hlf
                  rw [HQ9.out.2.2.2] at hlf
                  have hz9 : q9.its.lookup i8 = some z := hz
                  rw [hz9] at hget
                  have hPr := Sl.of_owns (HX.out.owns H28.out.pr)
                  obtain ⟨-, -, hon, hce⟩ := Sl.cells hPr
                  obtain ⟨pa9, rfl⟩ : ∃ a, po = some a := by
                    cases po with
                    | none => obtain ⟨h9, -⟩ := Sl.cells (Sl.of_owns H28.out.pr); have := hon rfl; have := HJ.out; omega
                    | some a => exact ⟨a, rfl⟩
                  obtain ⟨r1, r6, r7, r8⟩ := row9k hPr hjP
                  obtain ⟨pz, hpz⟩ : ∃ z, P[j] = z := ⟨_, rfl⟩
                  rw [hpz] at r1 r6 r7 r8 hcore
                  obtain ⟨u1, u2, u3, u4, u5, u6, u7, u8, u9⟩ := pz
                  obtain ⟨zi, zl, zs, zc, zd, zt, zu, zg, zp, zz⟩ := z
                  simp only [core, Prod.mk.injEq] at hcore
                  obtain ⟨rfl, rfl, rfl, rfl⟩ := hcore
                  dsimp only at r1 r6 r7 r8 hlf
                  have hd1 : decide (de < zc) = false := by simp; omega
                  have HCT : Hid (zs = 4 → zc = de) := hid (by omega)
                  have hva : vU i8 = .int .u64 ((j : Int) + 1) := by show Value.int _ _ = _; rw [hi8n]; rfl
                  rw [hva] at hget
                  have HGET : Hid (Calls Tryz.prog 30 #[pv p, .int .u64 ((j : Int) + 1)] wr fun e w' => e = .returned (.tuple #[itV ⟨zi, zl, zs, zc, zd, zt, zu, zg, zp, zz⟩, .bool true]) ∧ Ext wr w') := hid hget
                  obtain ⟨L0, hL0⟩ : ∃ n, leftG ((G.set j0 1).take j) = n := ⟨_, rfl⟩
                  have HTK1 : Hid (leftG ((G.set j0 1).take (j + 1)) = L0 + 1) := hid (by have := HTK.out; rw [if_pos rfl, hL0] at this; exact this)
                  have hLb : L0 ≤ 260 := by rw [← hL0]; exact Nat.le_trans (List.length_filter_le _ _) (by rw [List.length_take]; omega)
                  rw [hL0]
                  have hx2 := (lk3 (HX.out.obj HCX8.out)).2.2.1
                  clear hlk hz hz9 hlf hitr hpz hon hce hPr hget hva hcv hi8n hL0 HTK
                  go_wp2_with fail
                  refine HGET.out.mono ?_
                  rintro e w12 ⟨rfl, hx⟩
                  have hcg2 := fun o => (Ext.alloc w12 o).cell (hx.cell hcg)
                  have hr1 := fun o => (Ext.alloc w12 o).cell (hx.cell r1)
                  have hr6 := fun o => (Ext.alloc w12 o).cell (hx.cell r6)
                  have hr7 := fun o => (Ext.alloc w12 o).cell (hx.cell r7)
                  have hr8 := fun o => (Ext.alloc w12 o).cell (hx.cell r8)
                  have hcf := fun o => (Ext.alloc w12 o).cell (hx.cell hx2)
                  have HX12 := hid (HX.out.trans hx)
                  clear hx hcg r1 r6 r7 r8 hx2 HGET hi1
                  by_cases h4 : zs = 4
                  · obtain rfl := HCT.out h4
                    subst h4
                    go_wp2_with fail
                    go_quiet (fail)
                    go_wp2
                    clear hcg2 hr1 hr6 hr7 hr8 hcf
                    go_roundw
                    case rel => exact ⟨j + 1, HJ.out, by go_num, congrArg (Value.int .i64) (by have := HTK1.out; omega), hid (HX12.out.trans ((Ext.alloc _ _).trans (Ext.drewN _ _)))⟩
                    case measure => simp [intOf]; have := HJ.out; omega
                  · have hs4 : (zs == (4 : Int)) = false := by simpa using h4
                    clear h4
                    go_wp2_with fail
                    go_quiet (fail)
                    go_wp2
                    clear hcg2 hr1 hr6 hr7 hr8 hcf
                    go_roundw
                    case rel => exact ⟨j + 1, HJ.out, by go_num, congrArg (Value.int .i64) (by have := HTK1.out; omega), hid (HX12.out.trans ((Ext.alloc _ _).trans (Ext.drewN _ _)))⟩
                    case measure => simp [intOf]; have := HJ.out; omega
                · rw [if_neg (by simp)] at hlk
                  have hz9 : q9.its.lookup i8 = none := by
                    have h9 : look q9 i8 = none := by
                      cases hz : look q9 i8 with
                      | none => rfl
                      | some z => rw [hz] at hlk; cases hlk
                    exact h9
                  rw [hz9] at hget
                  have hva : vU i8 = .int .u64 ((j : Int) + 1) := by show Value.int _ _ = _; rw [hi8n]; rfl
                  rw [hva] at hget
                  have HGET : Hid (Calls Tryz.prog 30 #[pv p, .int .u64 ((j : Int) + 1)] wr fun e w' => e = .returned (.tuple #[itV it0, .bool false]) ∧ Ext wr w') := hid hget
                  have HTK1 : Hid (leftG ((G.set j0 1).take (j + 1)) = leftG ((G.set j0 1).take j)) := hid (by have := HTK.out; rw [if_neg (by decide)] at this; exact this)
                  clear hlk hz9 hget hva hcv hi8n HTK
                  go_wp2_with fail
                  refine HGET.out.mono ?_
                  rintro e w12 ⟨rfl, hx⟩
                  have hcg2 := fun o => (Ext.alloc w12 o).cell (hx.cell hcg)
                  have HX12 := hid (HX.out.trans hx)
                  clear hx hcg HGET hi1
                  go_wp2
                  go_roundw
                  case rel => exact ⟨j + 1, HJ.out, by go_num, by rw [HTK1.out], hid (HX12.out.trans (Ext.alloc _ _))⟩
                  case measure => simp [intOf]; have := HJ.out; omega
              · obtain rfl : j = pn := by omega
                have hki : decide (j < j) = false := by simp
                obtain ⟨s, hs⟩ : ∃ s, stateQ q9 = s := ⟨_, rfl⟩
                have hsl : s.items.length = leftG ((G.set j0 1).take j) := by
                  have h1 := HK8.out.its HQ9.out.1 (by have := HSB.out; have := H28.out.n; omega)
                  have h2 := H28.out.m
                  rw [List.take_of_length_le (by omega), ← h1, ← hs]
                  show (sortN (q9.its.map Prod.snd)).length = _
                  rw [(sortN_perm _).length_eq, List.length_map]
                have hst := st_any (HI8.out.ext HX.out) HQ9.out.1 (TBx HT.out (HE8.out.trans HX.out)) hs
                have HST := hid hst
                have hne : (((s.items.length : Nat) : Int) != ((leftG ((G.set j0 1).take j) : Nat) : Int)) = false := by rw [hsl]; simp
                have HNE := hid hne
                obtain ⟨L1, hL1⟩ : ∃ n, leftG ((G.set j0 1).take j) = n := ⟨_, rfl⟩
                rw [hL1] at HNE
                rw [hL1]
                clear hlt hj hst hs hsl hne hL1
                go_wp2_with fail
                clear hki
                refine HST.out.mono ?_
                rintro e w12 ⟨⟨vi, vd, vc, rfl, ho⟩, hx⟩
                obtain ⟨ga, gac, rfl⟩ := row_shape ho.it
                have hfs := state_items s (.slice ga s.items.length gac) vd vc w12
                obtain ⟨V, hV⟩ : ∃ V, srV s (.slice ga s.items.length gac) vd vc = V := ⟨_, rfl⟩
                rw [hV] at hfs
                try rw [hV]
                have hne := HNE.out
                have HX12 := hid (HX.out.trans hx)
                clear ho hx hV HST
                go_wp2
                go_roundw
                case rel => exact ⟨k + 1, x9, q9, P, (G.set j0 1), po, _, pc, (some qa0), qc, HKM.out, by go_num, rfl, rfl, hid (HI8.out.ext HX12.out), hid ⟨HQ9.out.1.mono (by omega), HQ9.out.2⟩, hid ⟨HK8.out, HPK8.out⟩, hid (H28.out.ext HX12.out), hid (HE8.out.trans HX12.out), hid (HX12.out.obj HCX8.out), hid (Nat.le_trans HAL8.out HX12.out.size)⟩
                case measure => simp [intOf]; have := HKM.out; omega
        by_cases h7 : dn = 7
        · subst h7
          obtain ⟨j0, hj0, hid0, hg0, hki0⟩ := HKA.out.pu hE rfl
          have HK8 := hid hki0
          dsimp only at hid0
          have hva0 : vU aid = .int .u64 ((j0 : Int) + 1) := by show Value.int _ _ = _; rw [hid0]; rfl
          have hjn : j0 < pn := by have := H210.out.n; omega
          obtain ⟨qa0, rfl, ⟨g0, hg1, hc1⟩, hfz, hset⟩ := H210.out.at hjn
          rw [hg0] at hg1
          obtain rfl := Option.some.inj hg1
          have HSET := hid (hset 1)
          rw [hva0] at d3
          have hd1 : decide ((pn : Int) < (j0 : Int) + 1) = false := by simp; omega
          have hi0 : decide ((j0 : Int) < (pn : Int)) = true := by simp; omega
          have hpb : pn ≤ 260 := HPN.out
          clear h0 hset hg0 hg1 hki0 hid0 hva0 hE
          go_wp2_with fail
          clear hw10 hc1 hfz hd1 hi0 hpb hE1
          obtain ⟨w8, hw8⟩ : ∃ W, w10.setCell (qa0.add j0) (gI 1) = W := ⟨_, rfl⟩
          have hst := HSET.out
          rw [hw8] at hst
          obtain ⟨h8, f8⟩ := hst
          try rw [hw8]
          have HI8 := hid (HI10.out.off_fr f8 (fun a ha => H210.out.gs a ha))
          have hlo8 := row_lo H210.out.gr
          have HE8 : Hid (Ext w w8) := hid (Below.trans HE10.out (f8.below (fun a ha => by have := hlo8 a ha; have := HAS.out; omega) HE10.out.size))
          have HCX8 := hid ((f8.block cb (Array.getElem?_eq_some_iff.1 HCX10.out).1 (fun hm => by have := hlo8 _ hm; have := HAS.out; omega)).trans HCX10.out)
          have HAL8 := hid (Nat.le_trans HAL10.out f8.size)
          have H28 := hid h8
          have HPK8 : Hid (P.length ≤ k + 1) := hid (by have := HKI.out.2; omega)
          clear hw8 h8 f8 hlo8 HSET hjn hj0
          as_aux_lemma =>
            have HSB : Hid (pn ≤ 261) := hid (by first | (have := HPN.out; omega) | omega | (have := HPN.out; have := HNE.out; omega))
            clear o0 o1 o2 o3 o4 o5 o6 o7 o8 o9 o10 o11 o12 o13 o14 d0 d1 d2 d3 d4 d5 d6 d7 d8
            go_loopw [12, 121] (fun lv iv wr => ∃ j : Nat, j ≤ pn ∧ iv = .int .i64 (j : Int) ∧ lv = .int .i64 ((leftG ((G.set j0 1).take j) : Nat) : Int) ∧ Hid (Ext w8 wr)) (fun _ iv _ => pn - (intOf iv).toNat)
            case atStart => exact ⟨0, Nat.zero_le _, rfl, rfl, hid (Ext.refl _)⟩
            case round =>
              obtain ⟨j, hj, rfl, rfl, HX⟩ := hrel
              by_cases hlt : j < pn
              · have hi1 : decide ((j : Int) < (pn : Int)) = true := by simp; omega
                have hjP : j < P.length := by have := H28.out.n; omega
                have hjG : j < (G.set j0 1).length := by have := H28.out.m; omega
                have HJ := hid hlt
                have hjb : j ≤ 260 := by have := HSB.out; omega
                obtain ⟨i8, hi8⟩ : ∃ i : UInt64, UInt64.ofNat (j + 1) = i := ⟨_, rfl⟩
                have hi8n : i8.toNat = j + 1 := by rw [← hi8, UInt64.toNat_ofNat']; omega
                have hcv : IntKind.u64.wrap ((j : Int) + 1) = (i8.toNat : Int) := by
                  have : IntKind.u64.wrap ((j : Int) + 1) = ((j : Int) + 1) % 18446744073709551616 := rfl
                  rw [this, hi8n]; omega
                have hget := get_any i8 (HI8.out.ext HX.out)
                have hlk := HK8.out.lk j hjP
                rw [hi8] at hlk
                obtain ⟨g, hg⟩ : ∃ g, (G.set j0 1)[j] = g := ⟨_, rfl⟩
                have hg2 : (G.set j0 1)[j]? = some g := by rw [List.getElem?_eq_getElem hjG, hg]
                have hg01 := HK8.out.g1 g (by rw [← hg]; exact List.getElem_mem hjG)
                have htk := left_take (G.set j0 1) hjG
                rw [hg] at htk
                have HTK := hid htk
                rw [hg2] at hlk
                obtain ⟨-, -, hon, hce⟩ := Sl.cells (Sl.of_owns (HX.out.owns H28.out.gr))
                have hcg := hce qa0 rfl j (gI g) (by rw [List.getElem?_map, hg2]; rfl)
                clear hg hg2 htk hi8 hon hce hlt hj
                rcases hg01 with rfl | rfl
                · rw [if_pos rfl] at hlk
                  obtain ⟨z, hz⟩ : ∃ z, look q9 i8 = some z := by
                    cases hz : look q9 i8 with
                    | none => rw [hz] at hlk; cases hlk
                    | some z => exact ⟨z, rfl⟩
                  rw [hz] at hlk
                  have hcore := Option.some.inj hlk
                  have hitr := HQ9.out.1.wi.wq.it _ (look_in hz)
                  have hlf := hitr.lf
                  dsimp only at hlf
                  rw [HQ9.out.2.2.2] at hlf
                  have hz9 : q9.its.lookup i8 = some z := hz
                  rw [hz9] at hget
                  have hPr := Sl.of_owns (HX.out.owns H28.out.pr)
                  obtain ⟨-, -, hon, hce⟩ := Sl.cells hPr
                  obtain ⟨pa9, rfl⟩ : ∃ a, po = some a := by
                    cases po with
                    | none => obtain ⟨h9, -⟩ := Sl.cells (Sl.of_owns H28.out.pr); have := hon rfl; have := HJ.out; omega
                    | some a => exact ⟨a, rfl⟩
                  obtain ⟨r1, r6, r7, r8⟩ := row9k hPr hjP
                  obtain ⟨pz, hpz⟩ : ∃ z, P[j] = z := ⟨_, rfl⟩
                  rw [hpz] at r1 r6 r7 r8 hcore
                  obtain ⟨u1, u2, u3, u4, u5, u6, u7, u8, u9⟩ := pz
                  obtain ⟨zi, zl, zs, zc, zd, zt, zu, zg, zp, zz⟩ := z
                  simp only [core, Prod.mk.injEq] at hcore
                  obtain ⟨rfl, rfl, rfl, rfl⟩ := hcore
                  dsimp only at r1 r6 r7 r8 hlf
                  have hd1 : decide (de < zc) = false := by simp; omega
                  have HCT : Hid (zs = 4 → zc = de) := hid (by omega)
                  have hva : vU i8 = .int .u64 ((j : Int) + 1) := by show Value.int _ _ = _; rw [hi8n]; rfl
                  rw [hva] at hget
                  have HGET : Hid (Calls Tryz.prog 30 #[pv p, .int .u64 ((j : Int) + 1)] wr fun e w' => e = .returned (.tuple #[itV ⟨zi, zl, zs, zc, zd, zt, zu, zg, zp, zz⟩, .bool true]) ∧ Ext wr w') := hid hget
                  obtain ⟨L0, hL0⟩ : ∃ n, leftG ((G.set j0 1).take j) = n := ⟨_, rfl⟩
                  have HTK1 : Hid (leftG ((G.set j0 1).take (j + 1)) = L0 + 1) := hid (by have := HTK.out; rw [if_pos rfl, hL0] at this; exact this)
                  have hLb : L0 ≤ 260 := by rw [← hL0]; exact Nat.le_trans (List.length_filter_le _ _) (by rw [List.length_take]; omega)
                  rw [hL0]
                  have hx2 := (lk3 (HX.out.obj HCX8.out)).2.2.1
                  clear hlk hz hz9 hlf hitr hpz hon hce hPr hget hva hcv hi8n hL0 HTK
                  go_wp2_with fail
                  refine HGET.out.mono ?_
                  rintro e w12 ⟨rfl, hx⟩
                  have hcg2 := fun o => (Ext.alloc w12 o).cell (hx.cell hcg)
                  have hr1 := fun o => (Ext.alloc w12 o).cell (hx.cell r1)
                  have hr6 := fun o => (Ext.alloc w12 o).cell (hx.cell r6)
                  have hr7 := fun o => (Ext.alloc w12 o).cell (hx.cell r7)
                  have hr8 := fun o => (Ext.alloc w12 o).cell (hx.cell r8)
                  have hcf := fun o => (Ext.alloc w12 o).cell (hx.cell hx2)
                  have HX12 := hid (HX.out.trans hx)
                  clear hx hcg r1 r6 r7 r8 hx2 HGET hi1
                  by_cases h4 : zs = 4
                  · obtain rfl := HCT.out h4
                    subst h4
                    go_wp2_with fail
                    go_quiet (fail)
                    go_wp2
                    clear hcg2 hr1 hr6 hr7 hr8 hcf
                    go_roundw
                    case rel => exact ⟨j + 1, HJ.out, by go_num, congrArg (Value.int .i64) (by have := HTK1.out; omega), hid (HX12.out.trans ((Ext.alloc _ _).trans (Ext.drewN _ _)))⟩
                    case measure => simp [intOf]; have := HJ.out; omega
                  · have hs4 : (zs == (4 : Int)) = false := by simpa using h4
                    clear h4
                    go_wp2_with fail
                    go_quiet (fail)
                    go_wp2
                    clear hcg2 hr1 hr6 hr7 hr8 hcf
                    go_roundw
                    case rel => exact ⟨j + 1, HJ.out, by go_num, congrArg (Value.int .i64) (by have := HTK1.out; omega), hid (HX12.out.trans ((Ext.alloc _ _).trans (Ext.drewN _ _)))⟩
                    case measure => simp [intOf]; have := HJ.out; omega
                · rw [if_neg (by simp)] at hlk
                  have hz9 : q9.its.lookup i8 = none := by
                    have h9 : look q9 i8 = none := by
                      cases hz : look q9 i8 with
                      | none => rfl
                      | some z => rw [hz] at hlk; cases hlk
                    exact h9
                  rw [hz9] at hget
                  have hva : vU i8 = .int .u64 ((j : Int) + 1) := by show Value.int _ _ = _; rw [hi8n]; rfl
                  rw [hva] at hget
                  have HGET : Hid (Calls Tryz.prog 30 #[pv p, .int .u64 ((j : Int) + 1)] wr fun e w' => e = .returned (.tuple #[itV it0, .bool false]) ∧ Ext wr w') := hid hget
                  have HTK1 : Hid (leftG ((G.set j0 1).take (j + 1)) = leftG ((G.set j0 1).take j)) := hid (by have := HTK.out; rw [if_neg (by decide)] at this; exact this)
                  clear hlk hz9 hget hva hcv hi8n HTK
                  go_wp2_with fail
                  refine HGET.out.mono ?_
                  rintro e w12 ⟨rfl, hx⟩
                  have hcg2 := fun o => (Ext.alloc w12 o).cell (hx.cell hcg)
                  have HX12 := hid (HX.out.trans hx)
                  clear hx hcg HGET hi1
                  go_wp2
                  go_roundw
                  case rel => exact ⟨j + 1, HJ.out, by go_num, by rw [HTK1.out], hid (HX12.out.trans (Ext.alloc _ _))⟩
                  case measure => simp [intOf]; have := HJ.out; omega
              · obtain rfl : j = pn := by omega
                have hki : decide (j < j) = false := by simp
                obtain ⟨s, hs⟩ : ∃ s, stateQ q9 = s := ⟨_, rfl⟩
                have hsl : s.items.length = leftG ((G.set j0 1).take j) := by
                  have h1 := HK8.out.its HQ9.out.1 (by have := HSB.out; have := H28.out.n; omega)
                  have h2 := H28.out.m
                  rw [List.take_of_length_le (by omega), ← h1, ← hs]
                  show (sortN (q9.its.map Prod.snd)).length = _
                  rw [(sortN_perm _).length_eq, List.length_map]
                have hst := st_any (HI8.out.ext HX.out) HQ9.out.1 (TBx HT.out (HE8.out.trans HX.out)) hs
                have HST := hid hst
                have hne : (((s.items.length : Nat) : Int) != ((leftG ((G.set j0 1).take j) : Nat) : Int)) = false := by rw [hsl]; simp
                have HNE := hid hne
                obtain ⟨L1, hL1⟩ : ∃ n, leftG ((G.set j0 1).take j) = n := ⟨_, rfl⟩
                rw [hL1] at HNE
                rw [hL1]
                clear hlt hj hst hs hsl hne hL1
                go_wp2_with fail
                clear hki
                refine HST.out.mono ?_
                rintro e w12 ⟨⟨vi, vd, vc, rfl, ho⟩, hx⟩
                obtain ⟨ga, gac, rfl⟩ := row_shape ho.it
                have hfs := state_items s (.slice ga s.items.length gac) vd vc w12
                obtain ⟨V, hV⟩ : ∃ V, srV s (.slice ga s.items.length gac) vd vc = V := ⟨_, rfl⟩
                rw [hV] at hfs
                try rw [hV]
                have hne := HNE.out
                have HX12 := hid (HX.out.trans hx)
                clear ho hx hV HST
                go_wp2
                go_roundw
                case rel => exact ⟨k + 1, x9, q9, P, (G.set j0 1), po, _, pc, (some qa0), qc, HKM.out, by go_num, rfl, rfl, hid (HI8.out.ext HX12.out), hid ⟨HQ9.out.1.mono (by omega), HQ9.out.2⟩, hid ⟨HK8.out, HPK8.out⟩, hid (H28.out.ext HX12.out), hid (HE8.out.trans HX12.out), hid (HX12.out.obj HCX8.out), hid (Nat.le_trans HAL8.out HX12.out.size)⟩
                case measure => simp [intOf]; have := HKM.out; omega
        · have hd0 : (dn == (0 : Int)) = false := by simpa using h0
          have hd2 : (dn == (2 : Int)) = false := by simpa using h2
          have hd7 : (dn == (7 : Int)) = false := by simpa using h7
          have HK8 := hid (HKA.out.ot hE h0 h2 h7)
          clear h0 h2 h7 hE
          go_wp2_with fail
          clear hw10
          clear hd0 hd2 hd7 hE1
          have HI8 := HI10
          have H28 := H210
          have HE8 := HE10
          have HCX8 := HCX10
          have HAL8 := HAL10
          have HPK8 : Hid (P.length ≤ k + 1) := hid (by have := HKI.out.2; omega)
          as_aux_lemma =>
            have HSB : Hid (pn ≤ 261) := hid (by first | (have := HPN.out; omega) | omega | (have := HPN.out; have := HNE.out; omega))
            clear o0 o1 o2 o3 o4 o5 o6 o7 o8 o9 o10 o11 o12 o13 o14 d0 d1 d2 d3 d4 d5 d6 d7 d8
            go_loopw [12, 121] (fun lv iv wr => ∃ j : Nat, j ≤ pn ∧ iv = .int .i64 (j : Int) ∧ lv = .int .i64 ((leftG (G.take j) : Nat) : Int) ∧ Hid (Ext w10 wr)) (fun _ iv _ => pn - (intOf iv).toNat)
            case atStart => exact ⟨0, Nat.zero_le _, rfl, rfl, hid (Ext.refl _)⟩
            case round =>
              obtain ⟨j, hj, rfl, rfl, HX⟩ := hrel
              by_cases hlt : j < pn
              · have hi1 : decide ((j : Int) < (pn : Int)) = true := by simp; omega
                have hjP : j < P.length := by have := H28.out.n; omega
                have hjG : j < G.length := by have := H28.out.m; omega
                have HJ := hid hlt
                have hjb : j ≤ 260 := by have := HSB.out; omega
                obtain ⟨i8, hi8⟩ : ∃ i : UInt64, UInt64.ofNat (j + 1) = i := ⟨_, rfl⟩
                have hi8n : i8.toNat = j + 1 := by rw [← hi8, UInt64.toNat_ofNat']; omega
                have hcv : IntKind.u64.wrap ((j : Int) + 1) = (i8.toNat : Int) := by
                  have : IntKind.u64.wrap ((j : Int) + 1) = ((j : Int) + 1) % 18446744073709551616 := rfl
                  rw [this, hi8n]; omega
                have hget := get_any i8 (HI8.out.ext HX.out)
                have hlk := HK8.out.lk j hjP
                rw [hi8] at hlk
                obtain ⟨g, hg⟩ : ∃ g, G[j] = g := ⟨_, rfl⟩
                have hg2 : G[j]? = some g := by rw [List.getElem?_eq_getElem hjG, hg]
                have hg01 := HK8.out.g1 g (by rw [← hg]; exact List.getElem_mem hjG)
                have htk := left_take G hjG
                rw [hg] at htk
                have HTK := hid htk
                rw [hg2] at hlk
                obtain ⟨-, -, hon, hce⟩ := Sl.cells (Sl.of_owns (HX.out.owns H28.out.gr))
                obtain ⟨qa, rfl⟩ : ∃ a, qo = some a := by
                  cases qo with
                  | none => obtain ⟨h9, -⟩ := Sl.cells (Sl.of_owns H28.out.gr); have := hon rfl; omega
                  | some a => exact ⟨a, rfl⟩
                have hcg := hce qa rfl j (gI g) (by rw [List.getElem?_map, hg2]; rfl)
                clear hg hg2 htk hi8 hon hce hlt hj
                rcases hg01 with rfl | rfl
                · rw [if_pos rfl] at hlk
                  obtain ⟨z, hz⟩ : ∃ z, look q9 i8 = some z := by
                    cases hz : look q9 i8 with
                    | none => rw [hz] at hlk; cases hlk
                    | some z => exact ⟨z, rfl⟩
                  rw [hz] at hlk
                  have hcore := Option.some.inj hlk
                  have hitr := HQ9.out.1.wi.wq.it _ (look_in hz)
                  have hlf := hitr.lf
                  dsimp only at hlf
                  rw [HQ9.out.2.2.2] at hlf
                  have hz9 : q9.its.lookup i8 = some z := hz
                  rw [hz9] at hget
                  have hPr := Sl.of_owns (HX.out.owns H28.out.pr)
                  obtain ⟨-, -, hon, hce⟩ := Sl.cells hPr
                  obtain ⟨pa9, rfl⟩ : ∃ a, po = some a := by
                    cases po with
                    | none => obtain ⟨h9, -⟩ := Sl.cells (Sl.of_owns H28.out.pr); have := hon rfl; have := HJ.out; omega
                    | some a => exact ⟨a, rfl⟩
                  obtain ⟨r1, r6, r7, r8⟩ := row9k hPr hjP
                  obtain ⟨pz, hpz⟩ : ∃ z, P[j] = z := ⟨_, rfl⟩
                  rw [hpz] at r1 r6 r7 r8 hcore
                  obtain ⟨u1, u2, u3, u4, u5, u6, u7, u8, u9⟩ := pz
                  obtain ⟨zi, zl, zs, zc, zd, zt, zu, zg, zp, zz⟩ := z
                  simp only [core, Prod.mk.injEq] at hcore
                  obtain ⟨rfl, rfl, rfl, rfl⟩ := hcore
                  dsimp only at r1 r6 r7 r8 hlf
                  have hd1 : decide (de < zc) = false := by simp; omega
                  have HCT : Hid (zs = 4 → zc = de) := hid (by omega)
                  have hva : vU i8 = .int .u64 ((j : Int) + 1) := by show Value.int _ _ = _; rw [hi8n]; rfl
                  rw [hva] at hget
                  have HGET : Hid (Calls Tryz.prog 30 #[pv p, .int .u64 ((j : Int) + 1)] wr fun e w' => e = .returned (.tuple #[itV ⟨zi, zl, zs, zc, zd, zt, zu, zg, zp, zz⟩, .bool true]) ∧ Ext wr w') := hid hget
                  obtain ⟨L0, hL0⟩ : ∃ n, leftG (G.take j) = n := ⟨_, rfl⟩
                  have HTK1 : Hid (leftG (G.take (j + 1)) = L0 + 1) := hid (by have := HTK.out; rw [if_pos rfl, hL0] at this; exact this)
                  have hLb : L0 ≤ 260 := by rw [← hL0]; exact Nat.le_trans (List.length_filter_le _ _) (by rw [List.length_take]; omega)
                  rw [hL0]
                  have hx2 := (lk3 (HX.out.obj HCX8.out)).2.2.1
                  clear hlk hz hz9 hlf hitr hpz hon hce hPr hget hva hcv hi8n hL0 HTK
                  go_wp2_with fail
                  refine HGET.out.mono ?_
                  rintro e w12 ⟨rfl, hx⟩
                  have hcg2 := fun o => (Ext.alloc w12 o).cell (hx.cell hcg)
                  have hr1 := fun o => (Ext.alloc w12 o).cell (hx.cell r1)
                  have hr6 := fun o => (Ext.alloc w12 o).cell (hx.cell r6)
                  have hr7 := fun o => (Ext.alloc w12 o).cell (hx.cell r7)
                  have hr8 := fun o => (Ext.alloc w12 o).cell (hx.cell r8)
                  have hcf := fun o => (Ext.alloc w12 o).cell (hx.cell hx2)
                  have HX12 := hid (HX.out.trans hx)
                  clear hx hcg r1 r6 r7 r8 hx2 HGET hi1
                  by_cases h4 : zs = 4
                  · obtain rfl := HCT.out h4
                    subst h4
                    go_wp2_with fail
                    go_quiet (fail)
                    go_wp2
                    clear hcg2 hr1 hr6 hr7 hr8 hcf
                    go_roundw
                    case rel => exact ⟨j + 1, HJ.out, by go_num, congrArg (Value.int .i64) (by have := HTK1.out; omega), hid (HX12.out.trans ((Ext.alloc _ _).trans (Ext.drewN _ _)))⟩
                    case measure => simp [intOf]; have := HJ.out; omega
                  · have hs4 : (zs == (4 : Int)) = false := by simpa using h4
                    clear h4
                    go_wp2_with fail
                    go_quiet (fail)
                    go_wp2
                    clear hcg2 hr1 hr6 hr7 hr8 hcf
                    go_roundw
                    case rel => exact ⟨j + 1, HJ.out, by go_num, congrArg (Value.int .i64) (by have := HTK1.out; omega), hid (HX12.out.trans ((Ext.alloc _ _).trans (Ext.drewN _ _)))⟩
                    case measure => simp [intOf]; have := HJ.out; omega
                · rw [if_neg (by simp)] at hlk
                  have hz9 : q9.its.lookup i8 = none := by
                    have h9 : look q9 i8 = none := by
                      cases hz : look q9 i8 with
                      | none => rfl
                      | some z => rw [hz] at hlk; cases hlk
                    exact h9
                  rw [hz9] at hget
                  have hva : vU i8 = .int .u64 ((j : Int) + 1) := by show Value.int _ _ = _; rw [hi8n]; rfl
                  rw [hva] at hget
                  have HGET : Hid (Calls Tryz.prog 30 #[pv p, .int .u64 ((j : Int) + 1)] wr fun e w' => e = .returned (.tuple #[itV it0, .bool false]) ∧ Ext wr w') := hid hget
                  have HTK1 : Hid (leftG (G.take (j + 1)) = leftG (G.take j)) := hid (by have := HTK.out; rw [if_neg (by decide)] at this; exact this)
                  clear hlk hz9 hget hva hcv hi8n HTK
                  go_wp2_with fail
                  refine HGET.out.mono ?_
                  rintro e w12 ⟨rfl, hx⟩
                  have hcg2 := fun o => (Ext.alloc w12 o).cell (hx.cell hcg)
                  have HX12 := hid (HX.out.trans hx)
                  clear hx hcg HGET hi1
                  go_wp2
                  go_roundw
                  case rel => exact ⟨j + 1, HJ.out, by go_num, by rw [HTK1.out], hid (HX12.out.trans (Ext.alloc _ _))⟩
                  case measure => simp [intOf]; have := HJ.out; omega
              · obtain rfl : j = pn := by omega
                have hki : decide (j < j) = false := by simp
                obtain ⟨s, hs⟩ : ∃ s, stateQ q9 = s := ⟨_, rfl⟩
                have hsl : s.items.length = leftG (G.take j) := by
                  have h1 := HK8.out.its HQ9.out.1 (by have := HSB.out; have := H28.out.n; omega)
                  have h2 := H28.out.m
                  rw [List.take_of_length_le (by omega), ← h1, ← hs]
                  show (sortN (q9.its.map Prod.snd)).length = _
                  rw [(sortN_perm _).length_eq, List.length_map]
                have hst := st_any (HI8.out.ext HX.out) HQ9.out.1 (TBx HT.out (HE8.out.trans HX.out)) hs
                have HST := hid hst
                have hne : (((s.items.length : Nat) : Int) != ((leftG (G.take j) : Nat) : Int)) = false := by rw [hsl]; simp
                have HNE := hid hne
                obtain ⟨L1, hL1⟩ : ∃ n, leftG (G.take j) = n := ⟨_, rfl⟩
                rw [hL1] at HNE
                rw [hL1]
                clear hlt hj hst hs hsl hne hL1
                go_wp2_with fail
                clear hki
                refine HST.out.mono ?_
                rintro e w12 ⟨⟨vi, vd, vc, rfl, ho⟩, hx⟩
                obtain ⟨ga, gac, rfl⟩ := row_shape ho.it
                have hfs := state_items s (.slice ga s.items.length gac) vd vc w12
                obtain ⟨V, hV⟩ : ∃ V, srV s (.slice ga s.items.length gac) vd vc = V := ⟨_, rfl⟩
                rw [hV] at hfs
                try rw [hV]
                have hne := HNE.out
                have HX12 := hid (HX.out.trans hx)
                clear ho hx hV HST
                go_wp2
                go_roundw
                case rel => exact ⟨k + 1, x9, q9, P, G, po, _, pc, qo, qc, HKM.out, by go_num, rfl, rfl, hid (HI8.out.ext HX12.out), hid ⟨HQ9.out.1.mono (by omega), HQ9.out.2⟩, hid ⟨HK8.out, HPK8.out⟩, hid (H28.out.ext HX12.out), hid (HE8.out.trans HX12.out), hid (HX12.out.obj HCX8.out), hid (Nat.le_trans HAL8.out HX12.out.size)⟩
                case measure => simp [intOf]; have := HKM.out; omega
      · have hE1 : (E != 0) = true := by simpa using hE
        have HK8 := hid (HKA.out.er hE)
        clear hE
        go_wp2_with fail
        clear hw10
        clear hE1
        have HI8 := HI10
        have H28 := H210
        have HE8 := HE10
        have HCX8 := HCX10
        have HAL8 := HAL10
        have HPK8 : Hid (P.length ≤ k + 1) := hid (by have := HKI.out.2; omega)
        as_aux_lemma =>
          have HSB : Hid (pn ≤ 261) := hid (by first | (have := HPN.out; omega) | omega | (have := HPN.out; have := HNE.out; omega))
          clear o0 o1 o2 o3 o4 o5 o6 o7 o8 o9 o10 o11 o12 o13 o14 d0 d1 d2 d3 d4 d5 d6 d7 d8
          go_loopw [12, 121] (fun lv iv wr => ∃ j : Nat, j ≤ pn ∧ iv = .int .i64 (j : Int) ∧ lv = .int .i64 ((leftG (G.take j) : Nat) : Int) ∧ Hid (Ext w10 wr)) (fun _ iv _ => pn - (intOf iv).toNat)
          case atStart => exact ⟨0, Nat.zero_le _, rfl, rfl, hid (Ext.refl _)⟩
          case round =>
            obtain ⟨j, hj, rfl, rfl, HX⟩ := hrel
            by_cases hlt : j < pn
            · have hi1 : decide ((j : Int) < (pn : Int)) = true := by simp; omega
              have hjP : j < P.length := by have := H28.out.n; omega
              have hjG : j < G.length := by have := H28.out.m; omega
              have HJ := hid hlt
              have hjb : j ≤ 260 := by have := HSB.out; omega
              obtain ⟨i8, hi8⟩ : ∃ i : UInt64, UInt64.ofNat (j + 1) = i := ⟨_, rfl⟩
              have hi8n : i8.toNat = j + 1 := by rw [← hi8, UInt64.toNat_ofNat']; omega
              have hcv : IntKind.u64.wrap ((j : Int) + 1) = (i8.toNat : Int) := by
                have : IntKind.u64.wrap ((j : Int) + 1) = ((j : Int) + 1) % 18446744073709551616 := rfl
                rw [this, hi8n]; omega
              have hget := get_any i8 (HI8.out.ext HX.out)
              have hlk := HK8.out.lk j hjP
              rw [hi8] at hlk
              obtain ⟨g, hg⟩ : ∃ g, G[j] = g := ⟨_, rfl⟩
              have hg2 : G[j]? = some g := by rw [List.getElem?_eq_getElem hjG, hg]
              have hg01 := HK8.out.g1 g (by rw [← hg]; exact List.getElem_mem hjG)
              have htk := left_take G hjG
              rw [hg] at htk
              have HTK := hid htk
              rw [hg2] at hlk
              obtain ⟨-, -, hon, hce⟩ := Sl.cells (Sl.of_owns (HX.out.owns H28.out.gr))
              obtain ⟨qa, rfl⟩ : ∃ a, qo = some a := by
                cases qo with
                | none => obtain ⟨h9, -⟩ := Sl.cells (Sl.of_owns H28.out.gr); have := hon rfl; omega
                | some a => exact ⟨a, rfl⟩
              have hcg := hce qa rfl j (gI g) (by rw [List.getElem?_map, hg2]; rfl)
              clear hg hg2 htk hi8 hon hce hlt hj
              rcases hg01 with rfl | rfl
              · rw [if_pos rfl] at hlk
                obtain ⟨z, hz⟩ : ∃ z, look q9 i8 = some z := by
                  cases hz : look q9 i8 with
                  | none => rw [hz] at hlk; cases hlk
                  | some z => exact ⟨z, rfl⟩
                rw [hz] at hlk
                have hcore := Option.some.inj hlk
                have hitr := HQ9.out.1.wi.wq.it _ (look_in hz)
                have hlf := hitr.lf
                dsimp only at hlf
                rw [HQ9.out.2.2.2] at hlf
                have hz9 : q9.its.lookup i8 = some z := hz
                rw [hz9] at hget
                have hPr := Sl.of_owns (HX.out.owns H28.out.pr)
                obtain ⟨-, -, hon, hce⟩ := Sl.cells hPr
                obtain ⟨pa9, rfl⟩ : ∃ a, po = some a := by
                  cases po with
                  | none => obtain ⟨h9, -⟩ := Sl.cells (Sl.of_owns H28.out.pr); have := hon rfl; have := HJ.out; omega
                  | some a => exact ⟨a, rfl⟩
                obtain ⟨r1, r6, r7, r8⟩ := row9k hPr hjP
                obtain ⟨pz, hpz⟩ : ∃ z, P[j] = z := ⟨_, rfl⟩
                rw [hpz] at r1 r6 r7 r8 hcore
                obtain ⟨u1, u2, u3, u4, u5, u6, u7, u8, u9⟩ := pz
                obtain ⟨zi, zl, zs, zc, zd, zt, zu, zg, zp, zz⟩ := z
                simp only [core, Prod.mk.injEq] at hcore
                obtain ⟨rfl, rfl, rfl, rfl⟩ := hcore
                dsimp only at r1 r6 r7 r8 hlf
                have hd1 : decide (de < zc) = false := by simp; omega
                have HCT : Hid (zs = 4 → zc = de) := hid (by omega)
                have hva : vU i8 = .int .u64 ((j : Int) + 1) := by show Value.int _ _ = _; rw [hi8n]; rfl
                rw [hva] at hget
                have HGET : Hid (Calls Tryz.prog 30 #[pv p, .int .u64 ((j : Int) + 1)] wr fun e w' => e = .returned (.tuple #[itV ⟨zi, zl, zs, zc, zd, zt, zu, zg, zp, zz⟩, .bool true]) ∧ Ext wr w') := hid hget
                obtain ⟨L0, hL0⟩ : ∃ n, leftG (G.take j) = n := ⟨_, rfl⟩
                have HTK1 : Hid (leftG (G.take (j + 1)) = L0 + 1) := hid (by have := HTK.out; rw [if_pos rfl, hL0] at this; exact this)
                have hLb : L0 ≤ 260 := by rw [← hL0]; exact Nat.le_trans (List.length_filter_le _ _) (by rw [List.length_take]; omega)
                rw [hL0]
                have hx2 := (lk3 (HX.out.obj HCX8.out)).2.2.1
                clear hlk hz hz9 hlf hitr hpz hon hce hPr hget hva hcv hi8n hL0 HTK
                go_wp2_with fail
                refine HGET.out.mono ?_
                rintro e w12 ⟨rfl, hx⟩
                have hcg2 := fun o => (Ext.alloc w12 o).cell (hx.cell hcg)
                have hr1 := fun o => (Ext.alloc w12 o).cell (hx.cell r1)
                have hr6 := fun o => (Ext.alloc w12 o).cell (hx.cell r6)
                have hr7 := fun o => (Ext.alloc w12 o).cell (hx.cell r7)
                have hr8 := fun o => (Ext.alloc w12 o).cell (hx.cell r8)
                have hcf := fun o => (Ext.alloc w12 o).cell (hx.cell hx2)
                have HX12 := hid (HX.out.trans hx)
                clear hx hcg r1 r6 r7 r8 hx2 HGET hi1
                by_cases h4 : zs = 4
                · obtain rfl := HCT.out h4
                  subst h4
                  go_wp2_with fail
                  go_quiet (fail)
                  go_wp2
                  clear hcg2 hr1 hr6 hr7 hr8 hcf
                  go_roundw
                  case rel => exact ⟨j + 1, HJ.out, by go_num, congrArg (Value.int .i64) (by have := HTK1.out; omega), hid (HX12.out.trans ((Ext.alloc _ _).trans (Ext.drewN _ _)))⟩
                  case measure => simp [intOf]; have := HJ.out; omega
                · have hs4 : (zs == (4 : Int)) = false := by simpa using h4
                  clear h4
                  go_wp2_with fail
                  go_quiet (fail)
                  go_wp2
                  clear hcg2 hr1 hr6 hr7 hr8 hcf
                  go_roundw
                  case rel => exact ⟨j + 1, HJ.out, by go_num, congrArg (Value.int .i64) (by have := HTK1.out; omega), hid (HX12.out.trans ((Ext.alloc _ _).trans (Ext.drewN _ _)))⟩
                  case measure => simp [intOf]; have := HJ.out; omega
              · rw [if_neg (by simp)] at hlk
                have hz9 : q9.its.lookup i8 = none := by
                  have h9 : look q9 i8 = none := by
                    cases hz : look q9 i8 with
                    | none => rfl
                    | some z => rw [hz] at hlk; cases hlk
                  exact h9
                rw [hz9] at hget
                have hva : vU i8 = .int .u64 ((j : Int) + 1) := by show Value.int _ _ = _; rw [hi8n]; rfl
                rw [hva] at hget
                have HGET : Hid (Calls Tryz.prog 30 #[pv p, .int .u64 ((j : Int) + 1)] wr fun e w' => e = .returned (.tuple #[itV it0, .bool false]) ∧ Ext wr w') := hid hget
                have HTK1 : Hid (leftG (G.take (j + 1)) = leftG (G.take j)) := hid (by have := HTK.out; rw [if_neg (by decide)] at this; exact this)
                clear hlk hz9 hget hva hcv hi8n HTK
                go_wp2_with fail
                refine HGET.out.mono ?_
                rintro e w12 ⟨rfl, hx⟩
                have hcg2 := fun o => (Ext.alloc w12 o).cell (hx.cell hcg)
                have HX12 := hid (HX.out.trans hx)
                clear hx hcg HGET hi1
                go_wp2
                go_roundw
                case rel => exact ⟨j + 1, HJ.out, by go_num, by rw [HTK1.out], hid (HX12.out.trans (Ext.alloc _ _))⟩
                case measure => simp [intOf]; have := HJ.out; omega
            · obtain rfl : j = pn := by omega
              have hki : decide (j < j) = false := by simp
              obtain ⟨s, hs⟩ : ∃ s, stateQ q9 = s := ⟨_, rfl⟩
              have hsl : s.items.length = leftG (G.take j) := by
                have h1 := HK8.out.its HQ9.out.1 (by have := HSB.out; have := H28.out.n; omega)
                have h2 := H28.out.m
                rw [List.take_of_length_le (by omega), ← h1, ← hs]
                show (sortN (q9.its.map Prod.snd)).length = _
                rw [(sortN_perm _).length_eq, List.length_map]
              have hst := st_any (HI8.out.ext HX.out) HQ9.out.1 (TBx HT.out (HE8.out.trans HX.out)) hs
              have HST := hid hst
              have hne : (((s.items.length : Nat) : Int) != ((leftG (G.take j) : Nat) : Int)) = false := by rw [hsl]; simp
              have HNE := hid hne
              obtain ⟨L1, hL1⟩ : ∃ n, leftG (G.take j) = n := ⟨_, rfl⟩
              rw [hL1] at HNE
              rw [hL1]
              clear hlt hj hst hs hsl hne hL1
              go_wp2_with fail
              clear hki
              refine HST.out.mono ?_
              rintro e w12 ⟨⟨vi, vd, vc, rfl, ho⟩, hx⟩
              obtain ⟨ga, gac, rfl⟩ := row_shape ho.it
              have hfs := state_items s (.slice ga s.items.length gac) vd vc w12
              obtain ⟨V, hV⟩ : ∃ V, srV s (.slice ga s.items.length gac) vd vc = V := ⟨_, rfl⟩
              rw [hV] at hfs
              try rw [hV]
              have hne := HNE.out
              have HX12 := hid (HX.out.trans hx)
              clear ho hx hV HST
              go_wp2
              go_roundw
              case rel => exact ⟨k + 1, x9, q9, P, G, po, _, pc, qo, qc, HKM.out, by go_num, rfl, rfl, hid (HI8.out.ext HX12.out), hid ⟨HQ9.out.1.mono (by omega), HQ9.out.2⟩, hid ⟨HK8.out, HPK8.out⟩, hid (H28.out.ext HX12.out), hid (HE8.out.trans HX12.out), hid (HX12.out.obj HCX8.out), hid (Nat.le_trans HAL8.out HX12.out.size)⟩
              case measure => simp [intOf]; have := HKM.out; omega
    · have hki : decide (k < m.length) = false := by simp; omega
      go_wp2
      go_returns
      exact ⟨rfl, HE.out⟩
end Go.Proofs.YtcfgafododiioaaGreatDoor
