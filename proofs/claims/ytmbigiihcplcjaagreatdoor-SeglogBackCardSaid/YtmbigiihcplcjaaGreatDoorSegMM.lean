/- The log of segments: mathematics. -/
import Derived.Test.YtmbigiihcplcjaaGreatDoorDskMK
import Derived.Test.YtmbigiihcplcjaaGreatDoorDskMY
import Derived.Test.YtmbigiihcplcjaaGreatDoorRecM
import Derived.Test.YtmbigiihcplcjaaGreatDoorNamM
set_option linter.unusedSimpArgs false
set_option linter.unusedVariables false
namespace Go.Proofs.YtmbigiihcplcjaaGreatDoor
open Go Go.RowKit Go.Tum Go.ChangeMaps Go.Tum.Crc Go.Nam

abbrev segN (n : Nat) : Nm := nameL 109 n
abbrev recB (r : Rc) : List UInt8 := fbytes (recFr r)
theorem digits_ok (n : Nat) : ∀ c ∈ dec n, 48 ≤ c.toNat ∧ c.toNat ≤ 57 := by
  induction n using Nat.strongRecOn with
  | _ n ih =>
    unfold dec
    rw [Lib.decDigits]
    by_cases h : n < 10
    · rw [dif_pos h]
      intro c hc
      rw [List.mem_singleton] at hc
      subst hc
      have := u8_digit h
      omega
    · rw [dif_neg h]
      intro c hc
      rcases List.mem_append.1 hc with hc | hc
      · exact ih (n / 10) (by omega) c hc
      · rw [List.mem_singleton] at hc
        subst hc
        have := u8_digit (Nat.mod_lt n (show 10 > 0 by omega))
        omega
theorem segN_len {n : Nat} (h : n < 10000000000) : (segN n).length ≤ 12 ∧ 3 ≤ (segN n).length := by
  have h1 : (dec n).length ≤ 10 := dec_len (k := 9) h
  have h2 : 1 ≤ (dec n).length := by
    have := dec_ne n
    cases h : dec n with
    | nil => exact absurd h this
    | cons a r => simp
  show (109 :: 46 :: dec n).length ≤ 12 ∧ 3 ≤ (109 :: 46 :: dec n).length
  simp only [List.length_cons]
  omega
theorem segN_ok {n : Nat} (h : n < 10000000000) : nmOk (segN n) = true := by
  have hl := segN_len h
  unfold nmOk
  simp only [Bool.and_eq_true, decide_eq_true_eq, List.all_eq_true]
  refine ⟨⟨by omega, hl.1⟩, fun c hc => ?_⟩
  have hc' : c ∈ (109 : UInt8) :: 46 :: dec n := hc
  rcases List.mem_cons.1 hc' with rfl | hc'
  · decide
  rcases List.mem_cons.1 hc' with rfl | hc'
  · decide
  · have := digits_ok n c hc'
    omega
theorem segN_inj {m n : Nat} (hm : m < 10000000000) (hn : n < 10000000000) (h : segN m = segN n) : m = n := by
  have h1 := read_name (k := 109) (by decide) hm
  have h2 := read_name (k := 109) (by decide) hn
  have h3 : nameL 109 m = nameL 109 n := h
  rw [h3, h2] at h1
  simpa using h1.symm
theorem segN_ne (n : Nat) : segN n ≠ [] := fun h => by
  have : (109 :: 46 :: dec n : List UInt8) = [] := h
  cases this

/-! ### What is read at a place -/
/-- The record that bytes begin with. -/
def firstL (b : List UInt8) : Rc × Nat × Int := match (rall 0 (b.take 411)).1, (rall 0 (b.take 411)).2.1 with
  | x :: _, n :: _ => (x, n, 0)
  | _, _ => (r0, 0, (rall 0 (b.take 411)).2.2)
theorem rall_lens : ∀ (b : List UInt8) (k : Nat), (rall k b).1.length = (rall k b).2.1.length := by
  intro b
  induction b using fall_ind with
  | h b ih =>
    intro k
    by_cases hb : b = []
    · subst hb; rfl
    · by_cases he : (fread b).2.2 = 0
      · by_cases hr : (recRead (fread b).1).2 = 0
        · rw [rall_ok hb he hr]
          have := ih hb he (k + (fread b).2.1)
          simp only [List.length_cons, this]
        · rw [rall_form hb he hr]; rfl
      · rw [rall_bad hb he]; rfl
theorem recB_len {r : Rc} (h : rightB r = true) : 11 ≤ (recB r).length ∧ (recB r).length ≤ 411 := by
  have h1 := body_le h
  have h2 : (recB r).length = (recFr r).body.length + 11 := fbytes_length _
  have h3 : (recFr r).body.length = (recBody r).length := rfl
  omega
theorem rall_rec {r : Rc} (h : rightB r = true) (m : List UInt8) (k : Nat) : rall k (recB r ++ m) = (r :: (rall (k + (recB r).length) m).1, (k + (recB r).length) :: (rall (k + (recB r).length) m).2.1, (rall (k + (recB r).length) m).2.2) := by
  have hb := body_le h
  have hl := recB_len h
  have hl2 : (recB r).length = (recFr r).body.length + 11 := fbytes_length _
  have h1 := fread_fbytes (recFr r) m hb
  have hne : recB r ++ m ≠ [] := fun e => by have := congrArg List.length e; simp only [List.length_append, List.length_nil] at this; omega
  have e1 : fread (recB r ++ m) = (recFr r, (recFr r).body.length + 11, 0) := h1
  have h2 := recRead_fr h
  rw [rall_ok hne (by rw [e1]) (by rw [e1]; dsimp only; rw [h2]), e1]
  dsimp only
  rw [h2, ← hl2, List.drop_left]
theorem first_rec {r : Rc} (h : rightB r = true) (m : List UInt8) : firstL (recB r ++ m) = (r, (recB r).length, 0) := by
  have hl := recB_len h
  have e : (recB r ++ m).take 411 = recB r ++ m.take (411 - (recB r).length) := by
    rw [List.take_append, List.take_of_length_le hl.2]
  unfold firstL
  rw [e, rall_rec h]
  simp
/-- What is read at a place of a disk. -/
def readG (s : PS) (seg at' : UInt64) : Rc × Nat × Int :=
  if 10000000000 ≤ seg.toNat then (r0, 0, 1)
  else if rdE s (segN seg.toNat) ≠ 0 then (r0, 0, (rdE s (segN seg.toNat) : Nat))
  else if (rdB s (segN seg.toNat)).length ≤ at'.toNat then (r0, 0, 3)
  else firstL ((rdB s (segN seg.toNat)).drop at'.toNat)

/-! ### The log -/
structure LG where
  seg : UInt64
  at' : UInt64
  most : Int
  uns : UInt64
  beg : Bool
def mayB (seg : UInt64) (most : Int) : Bool := decide (64 ≤ most) && (decide (most ≤ 65536) && decide (seg.toNat < 10000000000))
def beginG (s : PS) (seg : UInt64) (most : Int) : Option LG × Nat × PS :=
  if mayB seg most = false then (none, 1, s)
  else if (creP s (segN seg.toNat)).1 ≠ 0 then (none, (creP s (segN seg.toNat)).1, (creP s (segN seg.toNat)).2)
  else (some ⟨seg, 0, most, seg, true⟩, 0, (creP s (segN seg.toNat)).2)
def openG (s : PS) (seg at' : UInt64) (most : Int) : Option LG × Nat × PS :=
  if mayB seg most = false then (none, 1, s)
  else if rdE s (segN seg.toNat) ≠ 0 then (none, rdE s (segN seg.toNat), s)
  else if (rdB s (segN seg.toNat)).length < at'.toNat then (none, 3, s)
  else if at'.toNat < (rdB s (segN seg.toNat)).length then
    (if (cutP s (segN seg.toNat) (at'.toNat : Int)).1 ≠ 0 then (none, (cutP s (segN seg.toNat) (at'.toNat : Int)).1, (cutP s (segN seg.toNat) (at'.toNat : Int)).2)
     else (some ⟨seg, at', most, seg + 1, false⟩, 0, (cutP s (segN seg.toNat) (at'.toNat : Int)).2))
  else (some ⟨seg, at', most, seg + 1, false⟩, 0, s)
def nextG (s : PS) (g : LG) : Nat × PS × LG :=
  if 10000000000 ≤ (g.seg + 1).toNat then (4, s, g)
  else if (creP s (segN (g.seg + 1).toNat)).1 ≠ 0 then ((creP s (segN (g.seg + 1).toNat)).1, (creP s (segN (g.seg + 1).toNat)).2, g)
  else (0, (creP s (segN (g.seg + 1).toNat)).2, { g with seg := g.seg + 1, at' := 0, beg := true })
def roomG (s : PS) (g : LG) (n : Nat) : Nat × PS × LG := if g.at' ≠ 0 ∧ g.most < g.at'.toNat + n then nextG s g else (0, s, g)
/-- What Append answers: an error, segment, place. -/
structure AG where
  e : Nat
  seg : UInt64
  at' : UInt64
  s : PS
  g : LG
def putG (s : PS) (g : LG) (b : List UInt8) : AG :=
  if (appP s (segN g.seg.toNat) b).1 ≠ 0 then ⟨(appP s (segN g.seg.toNat) b).1, 0, 0, (appP s (segN g.seg.toNat) b).2, g⟩
  else ⟨0, g.seg, g.at', (appP s (segN g.seg.toNat) b).2, { g with at' := g.at' + UInt64.ofNat b.length, uns := if g.seg < g.uns then g.seg else g.uns }⟩
def appG (s : PS) (g : LG) (r : Rc) : AG :=
  if rightB r = false then ⟨1, 0, 0, s, g⟩
  else if (roomG s g (recB r).length).1 ≠ 0 then ⟨(roomG s g (recB r).length).1, 0, 0, (roomG s g (recB r).length).2.1, (roomG s g (recB r).length).2.2⟩
  else putG (roomG s g (recB r).length).2.1 (roomG s g (recB r).length).2.2 (recB r)
/-- Sync of segments, one by one. -/
def synN : Nat → Nat → PS → Nat × PS
  | 0, _, s => (0, s)
  | k + 1, a, s => if (synP s (segN a)).1 ≠ 0 then synP s (segN a) else synN k (a + 1) (synP s (segN a)).2
def synG (s : PS) (g : LG) : Nat × PS × LG :=
  let r := synN (g.seg.toNat + 1 - g.uns.toNat) g.uns.toNat s
  if r.1 ≠ 0 then (r.1, r.2, g)
  else if g.beg then (if (dsyP r.2).1 ≠ 0 then ((dsyP r.2).1, (dsyP r.2).2, g) else (0, (dsyP r.2).2, { g with uns := g.seg + 1, beg := false }))
  else (0, r.2, { g with uns := g.seg + 1, beg := false })
theorem wf_next {s : PS} (h : WF s) (g : LG) : WF (nextG s g).2.1 := by
  unfold nextG
  split
  · exact h
  · split <;> exact h.cre _
theorem wf_room {s : PS} (h : WF s) (g : LG) (n : Nat) : WF (roomG s g n).2.1 := by
  unfold roomG
  split
  · exact wf_next h g
  · exact h
theorem wf_put {s : PS} (h : WF s) (g : LG) (b : List UInt8) : WF (putG s g b).s := by
  unfold putG
  split <;> exact h.app _ _
theorem wf_appG {s : PS} (h : WF s) (g : LG) (r : Rc) : WF (appG s g r).s := by
  unfold appG
  split
  · exact h
  · split
    · exact wf_room h _ _
    · exact wf_put (wf_room h _ _) _ _
theorem wf_synN : ∀ (k a : Nat) {s : PS}, WF s → WF (synN k a s).2
  | 0, _, _, h => h
  | k + 1, a, s, h => by
    unfold synN
    split
    · exact h.syn _
    · exact wf_synN k (a + 1) (h.syn _)
theorem wf_synG {s : PS} (h : WF s) (g : LG) : WF (synG s g).2.1 := by
  have h1 := wf_synN (g.seg.toNat + 1 - g.uns.toNat) g.uns.toNat h
  unfold synG
  dsimp only
  split
  · exact h1
  · split
    · split <;> exact h1.dsy
    · exact h1
theorem wf_beginG {s : PS} (h : WF s) (seg : UInt64) (most : Int) : WF (beginG s seg most).2.2 := by
  unfold beginG
  split
  · exact h
  · split <;> exact h.cre _
theorem wf_openG {s : PS} (h : WF s) (seg at' : UInt64) (most : Int) : WF (openG s seg at' most).2.2 := by
  unfold openG
  split
  · exact h
  · split
    · exact h
    · split
      · exact h
      · split
        · split <;> exact h.cut _ _
        · exact h
/-- How many changes of the directory there are. -/
theorem doP_opn (s : PS) (e : Nat) (act : PS → PS) (n : Nat) (h0 : s.opn.length ≤ n) (h1 : ∀ s', s'.opn = s.opn → (act s').opn.length ≤ n) : (doP s e act).2.opn.length ≤ n := by
  unfold doP
  split
  · exact h0
  · split
    · exact h0
    · split
      · exact h0
      · exact h1 _ rfl
theorem cre_opn (s : PS) (n : Nm) : (creP s n).2.opn.length ≤ s.opn.length + 1 := doP_opn _ _ _ _ (by omega) fun s' h => by simp [h]
theorem app_opn (s : PS) (n : Nm) (b : List UInt8) : (appP s n b).2.opn.length ≤ s.opn.length := doP_opn _ _ _ _ (Nat.le_refl _) fun s' h => by simp [h]
theorem syn_opn (s : PS) (n : Nm) : (synP s n).2.opn.length ≤ s.opn.length := doP_opn _ _ _ _ (Nat.le_refl _) fun s' h => by simp [h]
theorem room_opn (s : PS) (g : LG) (n : Nat) : (roomG s g n).2.1.opn.length ≤ s.opn.length + 1 := by
  unfold roomG nextG
  split
  · split
    · dsimp only; omega
    · split <;> exact cre_opn _ _
  · dsimp only; omega
theorem appG_opn (s : PS) (g : LG) (r : Rc) : (appG s g r).s.opn.length ≤ s.opn.length + 1 := by
  unfold appG
  split
  · dsimp only; omega
  · split
    · exact room_opn _ _ _
    · unfold putG
      have := room_opn s g (recB r).length
      split
      · have := app_opn (roomG s g (recB r).length).2.1 (segN (roomG s g (recB r).length).2.2.seg.toNat) (recB r)
        dsimp only at this ⊢; omega
      · have := app_opn (roomG s g (recB r).length).2.1 (segN (roomG s g (recB r).length).2.2.seg.toNat) (recB r)
        dsimp only at this ⊢; omega
theorem synN_opn : ∀ (k a : Nat) (s : PS), (synN k a s).2.opn.length ≤ s.opn.length
  | 0, _, s => Nat.le_refl _
  | k + 1, a, s => by
    unfold synN
    split
    · exact syn_opn _ _
    · exact Nat.le_trans (synN_opn k _ _) (syn_opn _ _)
/-- A right log: its segment may be, its place is no more than a file may have. -/
structure GOk (g : LG) : Prop where
  sg : g.seg.toNat < 10000000000
  at' : g.at'.toNat ≤ 1048576 + 411
  mo : 64 ≤ g.most ∧ g.most ≤ 65536
  un : g.uns.toNat ≤ 10000000000
end Go.Proofs.YtmbigiihcplcjaaGreatDoor

