/- The disk: mathematics that both disks want. -/
import Derived.Test.YtijpokajhjhllaaGreatDoorDskMK
import Derived.Test.YtijpokajhjhllaaGreatDoorRotMX
set_option linter.unusedSimpArgs false
set_option linter.unusedVariables false
namespace Go.Proofs.YtijpokajhjhllaaGreatDoor
open Go Go.RowKit Go.Tum Go.ChangeMaps

theorem Dk.lt {B : Nat} {w : World} {p : Nat} {x : DX} {s : PS} (h : Dk B w p x s) : ∀ q ∈ x.blk p, q < w.heap.size := by
  intro q hq
  have hb : ∀ {b e n s : Nat} {v : Value} {xs : List Value}, w.ownsRow b e s v n xs → ∀ q ∈ oB v, q < w.heap.size := by
    intro b e n s v xs ho q hq
    rcases ho.2 with ⟨hv, -⟩ | ⟨g, cap, cur, hv, hb, hg, -⟩
    · rw [hv] at hq; simp [oB, Value.ownBlock] at hq
    · rw [hv] at hq; simp [oB, Value.ownBlock] at hq; subst hq; exact (Array.getElem?_eq_some_iff.1 hg).1
  unfold DX.blk at hq
  simp only [List.mem_cons, List.mem_append, List.mem_flatMap, List.mem_map] at hq
  rcases hq with rfl | rfl | rfl | (hq | ⟨z, hz, rfl⟩) | ⟨z, hz, hq⟩
  · exact (Array.getElem?_eq_some_iff.1 h.hd).1
  · obtain ⟨es, ck, hb⟩ := h.dr.block; exact (Array.getElem?_eq_some_iff.1 hb).1
  · obtain ⟨es, ck, hb⟩ := h.sr.block; exact (Array.getElem?_eq_some_iff.1 hb).1
  · exact hb h.op q hq
  · obtain ⟨i, hi, rfl⟩ := List.mem_iff_getElem.1 hz
    have := (Array.getElem?_eq_some_iff.1 (h.fi i (by rw [← h.fn]; exact hi)).1).1
    simpa [DX.bk, List.getD_eq_getElem?_getD, hi] using this
  · obtain ⟨i, hi, rfl⟩ := List.mem_iff_getElem.1 hz
    have h2 := (h.fi i (by rw [← h.fn]; exact hi)).2
    have e : x.sv i = x.bl[i].2 := by simp [DX.sv, List.getD_eq_getElem?_getD, hi]
    rw [e] at h2
    exact hb h2 q hq
theorem doP_ind {P : PS → Prop} (s : PS) (e : Nat) (act : PS → PS) (h0 : P s) (h1 : P { s with down := true }) (h2 : P (act (fusS s))) : P (doP s e act).2 := by
  unfold doP
  split
  · exact h0
  · split
    · exact h0
    · split
      · exact h1
      · exact h2
theorem doP_down {s : PS} (h : s.down = true) (e : Nat) (act : PS → PS) : doP s e act = (7, s) := by unfold doP; rw [if_pos h]
theorem look_memS : ∀ {d : Dir}, Sorted d → ∀ {z : Nm × Nat}, z ∈ d → look d z.1 = some z.2
  | [], _, _, h => absurd h (by simp)
  | (a, b) :: r, hs, z, h => by
    have h1 := List.pairwise_cons.1 hs
    rw [look_cons]
    rcases List.mem_cons.1 h with rfl | h
    · simp
    · have := h1.1 z h
      have hne : z.1 ≠ a := fun e => by rw [e] at this; exact nm_irrefl _ this
      rw [if_neg hne]
      exact look_memS h1.2 h
def nsum (s : PS) (l : List Nm) : Nat := (l.map fun n => (rdB s n).length).sum
theorem nsum_held {s : PS} (h : WF s) (ho : s.opn = []) (hd : s.down = false) : nsum s (s.dir.map Prod.fst) = held s := by
  have hdir : s.dir = s.sure := by unfold PS.dir; rw [ho]; rfl
  have hc : cntd s = s.sure.map Prod.snd := by unfold cntd; rw [ho]; simp [newOf]
  unfold nsum held sumL
  rw [hc, hdir, List.map_map, List.map_map]
  have hD := h.dir
  rw [hdir] at hD
  refine congrArg List.sum (List.map_congr_left fun z hz => ?_)
  show (rdB s z.1).length = flen s.files z.2
  unfold rdB flen
  rw [hd, hdir, look_memS hD.so hz]
  rfl
theorem nsum_take (s : PS) (l : List Nm) (k : Nat) : nsum s (l.take k) ≤ nsum s l := by
  have : nsum s l = nsum s (l.take k) + nsum s (l.drop k) := by
    unfold nsum
    rw [← List.sum_append, ← List.map_append, List.take_append_drop]
  omega
theorem nsum_succ (s : PS) (l : List Nm) (k : Nat) (h : k < l.length) : nsum s (l.take (k + 1)) = nsum s (l.take k) + (rdB s l[k]).length := by
  rw [List.take_succ_eq_append_getElem h]
  unfold nsum
  rw [List.map_append, List.sum_append]
  simp
theorem oB_ge {w : World} {b e s n : Nat} {v : Value} {xs : List Value} (h : w.ownsRow b e s v n xs) : ∀ q ∈ oB v, b ≤ q := by
  intro q hq
  rcases h.2 with ⟨hv, -⟩ | ⟨g, cap, cur, hv, hb, -⟩
  · rw [hv] at hq; simp [oB, Value.ownBlock] at hq
  · rw [hv] at hq; simp [oB, Value.ownBlock] at hq; subst hq; exact hb
theorem name_len {s : PS} (h : WF s) {j : Nat} (hj : j < (s.dir.map Prod.fst).length) : ((s.dir.map Prod.fst)[j]).length ≤ maxLen := by
  have hj2 : j < s.dir.length := by simpa using hj
  have := nmOk_len (h.dir.nm s.dir[j] (List.getElem_mem hj2)).1
  simp only [List.getElem_map]
  simp only [maxLen]
  omega
/-- What was the call's own ahead of an act is there behind it. -/
theorem own_keep {b : Nat} {w w' : World} {p : Nat} {x : DX} {e sz n : Nat} {v : Value} {xs : List Value} (h : w.ownsRow b e sz v n xs) (hx : ∀ q ∈ x.blk p, q < b) (f : Fr (x.blk p) w w') : w'.ownsRow b e sz v n xs :=
  ownsRow_fr h f fun q hq hm => by have := oB_ge h q hq; have := hx q hm; omega
theorem low_of {w : World} {to : Option Addr} {n c : Nat} {ts : List Int} (h : Vec Go.Tum.iv w (.slice to n c) ts) : ∀ a, to = some a → ts ≠ [] → a.block < w.heap.size := by
  intro a ha hne
  obtain ⟨-, -, -, -, hc⟩ := h.opens
  have hl : 0 < ts.length := List.length_pos_iff.2 hne
  have h1 := World.block_lt_of_cell? w _ (hc a ha 0 hl)
  have hb : (a.add 0).block = a.block := by unfold Addr.add; split <;> rfl
  omega
end Go.Proofs.YtijpokajhjhllaaGreatDoor

