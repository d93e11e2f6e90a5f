/- The laws' acts: mathematics. -/
import Derived.Test.YtkaafllbmeppnaaDskAw
set_option linter.unusedSimpArgs false
set_option linter.unusedVariables false
namespace Go.Proofs.Ytkaafllbmeppnaa
open Go Go.RowKit Go.Tum Go.ChangeMaps

theorem doP_ind {P : PS → Prop} (s : PS) (e : Nat) (act : PS → PS) (h0 : P s) (h1 : P { s with down := true }) (h2 : P (act (fusS s))) : P (doP s e act).2 := by
  unfold doP
  split
  · exact h0
  · split
    · exact h0
    · split
      · exact h1
      · exact h2
theorem act_room (s : PS) (a : At) : (actS s a).2.room = s.room := by
  unfold actS
  repeat' split
  · exact doP_ind (P := fun t => t.room = s.room) s _ _ rfl rfl rfl
  · exact doP_ind (P := fun t => t.room = s.room) s _ _ rfl rfl rfl
  · exact doP_ind (P := fun t => t.room = s.room) s _ _ rfl rfl rfl
  · exact doP_ind (P := fun t => t.room = s.room) s _ _ rfl rfl rfl
  · exact doP_ind (P := fun t => t.room = s.room) s _ _ rfl rfl rfl
  · exact doP_ind (P := fun t => t.room = s.room) s _ _ rfl rfl rfl
  · exact doP_ind (P := fun t => t.room = s.room) s _ _ rfl rfl rfl
  · rfl
  · rfl
  · rfl
theorem act_opn (s : PS) (a : At) : (actS s a).2.opn.length ≤ s.opn.length + 1 := by
  have h1 := Nat.le_succ s.opn.length
  have h2 : ∀ c : Chg, (s.opn ++ [c]).length ≤ s.opn.length + 1 := fun c => by simp
  unfold actS
  repeat' split
  · exact doP_ind (P := fun t => t.opn.length ≤ s.opn.length + 1) s _ _ h1 h1 (h2 _)
  · exact doP_ind (P := fun t => t.opn.length ≤ s.opn.length + 1) s _ _ h1 h1 h1
  · exact doP_ind (P := fun t => t.opn.length ≤ s.opn.length + 1) s _ _ h1 h1 h1
  · exact doP_ind (P := fun t => t.opn.length ≤ s.opn.length + 1) s _ _ h1 h1 h1
  · exact doP_ind (P := fun t => t.opn.length ≤ s.opn.length + 1) s _ _ h1 h1 (h2 _)
  · exact doP_ind (P := fun t => t.opn.length ≤ s.opn.length + 1) s _ _ h1 h1 (h2 _)
  · exact doP_ind (P := fun t => t.opn.length ≤ s.opn.length + 1) s _ _ h1 h1 (by simp)
  · exact h1
  · simp [crP]
  · exact h1
theorem doP_down {s : PS} (h : s.down = true) (e : Nat) (act : PS → PS) : doP s e act = (7, s) := by unfold doP; rw [if_pos h]
theorem act_down {s : PS} (h : s.down = true) (a : At) (h7 : a.dn ≠ 7) (h8 : a.dn ≠ 8) : actS s a = (7, s) := by
  unfold actS
  repeat' split
  · exact doP_down h _ _
  · exact doP_down h _ _
  · exact doP_down h _ _
  · exact doP_down h _ _
  · exact doP_down h _ _
  · exact doP_down h _ _
  · exact doP_down h _ _
  all_goals first | contradiction | simp [rdE, h]
theorem act_crash (s : PS) {a : At} (h : a.dn = 8) : actS s a = (0, crP s a.n a.ts) := by simp [actS, h]
theorem look_memS : ∀ {d : Dir}, Sorted d → ∀ {z : Nm × Nat}, z ∈ d → look d z.1 = some z.2
  | [], _, _, h => absurd h (by simp)
  | (a, b) :: r, hs, z, h => by
    have h1 := List.pairwise_cons.1 hs
    rw [look_cons]
    rcases List.mem_cons.1 h with rfl | h
    · simp
    · have := h1.1 z h
      have hne : z.1 ≠ a := fun e => by rw [e] at this; exact nm_irrefl _ this
      rw [if_neg hne]
      exact look_memS h1.2 h
def nsum (s : PS) (l : List Nm) : Nat := (l.map fun n => (rdB s n).length).sum
theorem nsum_held {s : PS} (h : WF s) (ho : s.opn = []) (hd : s.down = false) : nsum s (s.dir.map Prod.fst) = held s := by
  have hdir : s.dir = s.sure := by unfold PS.dir; rw [ho]; rfl
  have hc : cntd s = s.sure.map Prod.snd := by unfold cntd; rw [ho]; simp [newOf]
  unfold nsum held sumL
  rw [hc, hdir, List.map_map, List.map_map]
  have hD := h.dir
  rw [hdir] at hD
  refine congrArg List.sum (List.map_congr_left fun z hz => ?_)
  show (rdB s z.1).length = flen s.files z.2
  unfold rdB flen
  rw [hd, hdir, look_memS hD.so hz]
  rfl
theorem nsum_take (s : PS) (l : List Nm) (k : Nat) : nsum s (l.take k) ≤ nsum s l := by
  have : nsum s l = nsum s (l.take k) + nsum s (l.drop k) := by
    unfold nsum
    rw [← List.sum_append, ← List.map_append, List.take_append_drop]
  omega
theorem nsum_succ (s : PS) (l : List Nm) (k : Nat) (h : k < l.length) : nsum s (l.take (k + 1)) = nsum s (l.take k) + (rdB s l[k]).length := by
  rw [List.take_succ_eq_append_getElem h]
  unfold nsum
  rw [List.map_append, List.sum_append]
  simp
theorem oB_ge {w : World} {b e s n : Nat} {v : Value} {xs : List Value} (h : w.ownsRow b e s v n xs) : ∀ q ∈ oB v, b ≤ q := by
  intro q hq
  rcases h.2 with ⟨hv, -⟩ | ⟨g, cap, cur, hv, hb, -⟩
  · rw [hv] at hq; simp [oB, Value.ownBlock] at hq
  · rw [hv] at hq; simp [oB, Value.ownBlock] at hq; subst hq; exact hb
theorem name_len {s : PS} (h : WF s) {j : Nat} (hj : j < (s.dir.map Prod.fst).length) : ((s.dir.map Prod.fst)[j]).length ≤ maxLen := by
  have hj2 : j < s.dir.length := by simpa using hj
  have := nmOk_len (h.dir.nm s.dir[j] (List.getElem_mem hj2)).1
  simp only [List.getElem_map]
  simp only [maxLen]
  omega
/-- What was the call's own ahead of an act is there behind it. -/
theorem own_keep {b : Nat} {w w' : World} {p : Nat} {x : DX} {e sz n : Nat} {v : Value} {xs : List Value} (h : w.ownsRow b e sz v n xs) (hx : ∀ q ∈ x.blk p, q < b) (f : Fr (x.blk p) w w') : w'.ownsRow b e sz v n xs :=
  ownsRow_fr h f fun q hq hm => by have := oB_ge h q hq; have := hx q hm; omega
theorem low_of {w : World} {to : Option Addr} {n c : Nat} {ts : List Int} (h : Vec Go.Tum.iv w (.slice to n c) ts) : ∀ a, to = some a → ts ≠ [] → a.block < w.heap.size := by
  intro a ha hne
  obtain ⟨-, -, -, -, hc⟩ := h.opens
  have hl : 0 < ts.length := List.length_pos_iff.2 hne
  have h1 := World.block_lt_of_cell? w _ (hc a ha 0 hl)
  have hb : (a.add 0).block = a.block := by unfold Addr.add; split <;> rfl
  omega
theorem AtOk.low {w : World} {q : AtV} (h : AtOk w q) : ∀ a n c, q.2.2 = .slice (some a) n c → q.1.ts ≠ [] → a.block < w.heap.size := by
  intro a n c e hne
  have := h.t
  rw [e] at this
  exact low_of this a rfl hne
/-- An act of the row, and its cells. -/
theorem acts_at {w wr : World} {m : List AtV} {a0 : Addr} {cap : Nat} (hA : Acts w (.slice (some a0) m.length cap) m) (E : Ext w wr) (S : Small m) (k : Nat) (hlt : k < m.length) :
    ∃ (dn n : Int) (name to : Nm) (b : List UInt8) (ts : List Int) (uo : Option Addr) (uc : Nat) (vo : Option Addr) (vc : Nat),
      AtOk w (⟨dn, n, name, to, b, ts⟩, .slice uo b.length uc, .slice vo ts.length vc) ∧ b.length ≤ 1000 ∧ m[k] = (⟨dn, n, name, to, b, ts⟩, .slice uo b.length uc, .slice vo ts.length vc) ∧
      wr.cell? (a0.add (k * 6)) = some (.int .i64 dn) ∧ wr.cell? ⟨(a0.add (k * 6)).block, (a0.add (k * 6)).off + 1, none⟩ = some (.int .i64 n) ∧
      wr.cell? ⟨(a0.add (k * 6)).block, (a0.add (k * 6)).off + 2, none⟩ = some (vN name) ∧ wr.cell? ⟨(a0.add (k * 6)).block, (a0.add (k * 6)).off + 3, none⟩ = some (vN to) ∧
      wr.cell? ⟨(a0.add (k * 6)).block, (a0.add (k * 6)).off + 4, none⟩ = some (.slice uo b.length uc) ∧ wr.cell? ⟨(a0.add (k * 6)).block, (a0.add (k * 6)).off + 5, none⟩ = some (.slice vo ts.length vc) := by
  obtain ⟨hrow, hok⟩ := hA
  obtain ⟨-, -, -, -, hc⟩ := hrow.opens
  have c0 := cell_first (E.cell (hc a0 rfl k hlt 0 _ rfl))
  have c1 := cell_next (E.cell (hc a0 rfl k hlt 1 _ rfl)) (by decide)
  have c2 := cell_next (E.cell (hc a0 rfl k hlt 2 _ rfl)) (by decide)
  have c3 := cell_next (E.cell (hc a0 rfl k hlt 3 _ rfl)) (by decide)
  have c4 := cell_next (E.cell (hc a0 rfl k hlt 4 _ rfl)) (by decide)
  have c5 := cell_next (E.cell (hc a0 rfl k hlt 5 _ rfl)) (by decide)
  have ho := hok m[k] (List.getElem_mem hlt)
  have hb := (S.2 m[k] (List.getElem_mem hlt)).1
  obtain ⟨q, hq⟩ : ∃ q, m[k] = q := ⟨_, rfl⟩
  obtain ⟨⟨dn, n, name, to, b, ts⟩, u, v⟩ := q
  rw [hq] at c0 c1 c2 c3 c4 c5 ho hb
  have h4 := ho.b
  have h5 := ho.t
  dsimp only at c0 c1 c2 c3 c4 c5 h4 h5 hb
  obtain ⟨uo, uc, rfl, -⟩ := h4.open
  obtain ⟨vo, vc, rfl, -⟩ := h5.open
  exact ⟨dn, n, name, to, b, ts, uo, uc, vo, vc, ho, hb, hq, c0, c1, c2, c3, c4, c5⟩
end Go.Proofs.Ytkaafllbmeppnaa
