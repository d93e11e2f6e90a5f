/- The queue: nobody is there twice, nobody is lost. -/
import Derived.Test.YtcfgafododiioaaGreatDoorActM
import Derived.Test.YtcfgafododiioaaGreatDoorC1
import Derived.Test.YtcfgafododiioaaGreatDoorC2
import Derived.Test.YtcfgafododiioaaGreatDoorC3
import Derived.Test.YtcfgafododiioaaGreatDoorC4
import Derived.Test.YtcfgafododiioaaGreatDoorC5
import Derived.Test.YtcfgafododiioaaGreatDoorC6
import Derived.Test.YtcfgafododiioaaGreatDoorC7
import Derived.Test.YtcfgafododiioaaGreatDoorC8
import Derived.Test.YtcfgafododiioaaGreatDoorC9
import Derived.Test.YtcfgafododiioaaGreatDoorC10
import Derived.Test.YtcfgafododiioaaGreatDoorC11
import Derived.Test.YtcfgafododiioaaGreatDoorC12
import Derived.Test.YtcfgafododiioaaGreatDoorC13
import Derived.Test.YtcfgafododiioaaGreatDoorC14
import Derived.Test.YtcfgafododiioaaGreatDoorC15
import Derived.Test.YtcfgafododiioaaGreatDoorC16
import Derived.Test.YtcfgafododiioaaGreatDoorC17
import Derived.Test.YtcfgafododiioaaGreatDoorC18
import Derived.Test.YtcfgafododiioaaGreatDoorC19
import Derived.Test.YtcfgafododiioaaGreatDoorC20
import Derived.Test.YtcfgafododiioaaGreatDoorC21
import Derived.Test.YtcfgafododiioaaGreatDoorC22
import Derived.Test.YtcfgafododiioaaGreatDoorC23
import Derived.Test.YtcfgafododiioaaGreatDoorC24
import Derived.Test.YtcfgafododiioaaGreatDoorC25
import Derived.Test.YtcfgafododiioaaGreatDoorC26
import Derived.Test.YtcfgafododiioaaGreatDoorC27
import Derived.Test.YtcfgafododiioaaGreatDoorC28
import Derived.Test.YtcfgafododiioaaGreatDoorC29
import Derived.Test.YtcfgafododiioaaGreatDoorC30
import Derived.Test.YtcfgafododiioaaGreatDoorC31
import Derived.Test.YtcfgafododiioaaGreatDoorC32
import Derived.Test.YtcfgafododiioaaGreatDoorC33
import Derived.Test.YtcfgafododiioaaGreatDoorC34
import Derived.Test.YtcfgafododiioaaGreatDoorC35
import Derived.Test.YtcfgafododiioaaGreatDoorC36
import Derived.Test.YtcfgafododiioaaGreatDoorC37
import Derived.Test.YtcfgafododiioaaGreatDoorC38
import Derived.Test.YtcfgafododiioaaGreatDoorC39
import Derived.Test.YtcfgafododiioaaGreatDoorC40
import Derived.Test.YtcfgafododiioaaGreatDoorC41
import Derived.Test.YtcfgafododiioaaGreatDoorC42
import Derived.Test.YtcfgafododiioaaGreatDoorC43
import Derived.Test.YtcfgafododiioaaGreatDoorC44
import Derived.Test.YtcfgafododiioaaGreatDoorC45
set_option linter.unusedSimpArgs false
set_option linter.unusedVariables false
namespace Go.Proofs.YtcfgafododiioaaGreatDoor
open Go Go.RowKit Go.Tum Go.ChangeMaps Go.Sort

--BEGIN
/-- What stays of a message, whatever becomes of it. -/
def core (z : It) : Int × UInt64 × UInt64 × Int := (z.lane, z.seg, z.pos, z.size)
/-- The same messages. -/
def Kp (q r : QR) : Prop := (∀ i, (look r i).map core = (look q i).map core) ∧ r.next = q.next
theorem Kp.refl (q : QR) : Kp q q := ⟨fun _ => rfl, rfl⟩
theorem Kp.trans {a b c : QR} (h : Kp a b) (k : Kp b c) : Kp a c := ⟨fun i => (k.1 i).trans (h.1 i), k.2.trans h.2⟩
theorem Kp.bec {q : QR} {z : It} (hz : look q z.id = some z) {l : L} (hs : l.s = 1 ∨ l.s = 2 ∨ l.s = 3 ∨ l.s = 4) : Kp q (becQ q z l) := by
  refine ⟨fun i => ?_, (becQ_same q z l).2.2.2.2.1⟩
  rw [look_bec (by omega)]
  unfold entG
  rw [if_neg (by show ¬ l.s = 5; omega)]
  unfold setG delG
  by_cases e : i = (becI q z l).id
  · have e' : i = z.id := e
    rw [if_pos e, e', hz]
    rfl
  · have e' : ¬ i = z.id := e
    rw [if_neg e, if_neg e']
theorem Kp.tickL : ∀ (k : Nat) {q : QR}, WQ q → q.turns.toNat + k < 18446744073709551615 → Kp q (Go.Proofs.YtcfgafododiioaaGreatDoor.tickL k q).2
  | 0, q, _, _ => Kp.refl q
  | k + 1, q, h, hb => by
    unfold Go.Proofs.YtcfgafododiioaaGreatDoor.tickL
    cases hl : leastI (dueI q) with
    | none => exact Kp.refl q
    | some z =>
      dsimp only
      have hz := (leastI_some hl).1
      obtain ⟨h1, h2, h3⟩ := due_in h hz
      have hzr : ItR q z := h.it _ (look_in h1)
      obtain ⟨k1, k2, k3⟩ := pass_lf hzr h2 h3
      have hw := h.pass h1 h2 h3 (by omega)
      have a7 := (becQ_same q z (passL z.l q.now.toNat q.del)).2.2.2.2.2.2
      have htn : (becQ q z (passL z.l q.now.toNat q.del)).turns.toNat ≤ q.turns.toNat + 1 := by
        rw [a7]
        split
        · rw [UInt64.toNat_add, show (1 : UInt64).toNat = 1 from rfl]; omega
        · omega
      exact (Kp.bec h1 (by omega)).trans (Kp.tickL k hw (by omega))
theorem Kp.resL : ∀ (l : List It) {q : QR}, WQ q → (∀ z ∈ l, look q z.id = some z ∧ z.st = 3) → (l.map It.id).Nodup → q.turns.toNat + l.length < 18446744073709551615 → Kp q (Go.Proofs.YtcfgafododiioaaGreatDoor.resL q.del l q)
  | [], q, _, _, _, _ => Kp.refl q
  | z :: r, q, h, hz, hn, hb => by
    rw [List.map_cons, List.nodup_cons] at hn
    simp only [List.length_cons] at hb
    obtain ⟨h1, h2⟩ := hz z (by simp)
    have hr : ItR q z := h.it _ (look_in h1)
    obtain ⟨k1, k2, k3⟩ := reset_lf hr h2
    have hw : WQ (becQ q z (resetL z.l q.del)) := h.become (.inl h1) k1 (by omega) (by omega) fun k => by omega
    obtain ⟨a1, a2, a3, a4, a5, a6, a7⟩ := becQ_same q z (resetL z.l q.del)
    have htn : (becQ q z (resetL z.l q.del)).turns.toNat ≤ q.turns.toNat + 1 := by
      rw [a7]
      split
      · rw [UInt64.toNat_add, show (1 : UInt64).toNat = 1 from rfl]; omega
      · omega
    have := Kp.resL r hw (fun y hy => ?_) hn.2 (by omega)
    · rw [a3] at this
      exact (Kp.bec h1 (by omega)).trans this
    · obtain ⟨h3, h4⟩ := hz y (List.mem_cons_of_mem _ hy)
      have hne : y.id ≠ z.id := fun e => hn.1 (List.mem_map.2 ⟨y, hy, e⟩)
      refine ⟨?_, h4⟩
      unfold look
      rw [bec_its (by omega), lku_cons, if_neg hne, lookup_noK, if_neg hne]
      exact h3
/-- A message goes. -/
def Gn (q r : QR) (i : UInt64) : Prop := (look q i).isSome = true ∧ (∀ j, (look r j).map core = if j = i then none else (look q j).map core) ∧ r.next = q.next
theorem Gn.bec {q : QR} {z : It} (hz : look q z.id = some z) {l : L} (hs : l.s = 5) : Gn q (becQ q z l) z.id := by
  refine ⟨by rw [hz]; rfl, fun j => ?_, (becQ_same q z l).2.2.2.2.1⟩
  rw [look_bec (by omega)]
  unfold entG
  rw [if_pos (show (becI q z l).st = 5 from hs)]
  unfold delG
  split <;> rfl
theorem held_look {q : QR} (h : WQ q) {t i : UInt64} (hh : q.hld.lookup t = some i) : look q (getI q i).id = some (getI q i) ∧ (getI q i).id = i := by
  obtain ⟨z, hz, -⟩ := (h.co.hld t i).1 hh
  obtain ⟨h1, h2⟩ := h.get hz
  rw [h1, h2]
  exact ⟨hz, rfl⟩
theorem with_keeps {q : QR} (h : WQ q) {t : UInt64} {f : L → L × Int} (hf : ∀ x, (f x).2 = 0 → (f x).1.s = 1 ∨ (f x).1.s = 2 ∨ (f x).1.s = 3 ∨ (f x).1.s = 4) : Kp q (withQ q t f).2.2 := by
  unfold withQ
  cases hh : q.hld.lookup t with
  | none => exact Kp.refl q
  | some i =>
    dsimp only
    split
    · exact Kp.refl q
    · rename_i he
      exact Kp.bec (held_look h hh).1 (hf _ (by simpa using he))
theorem ack_goes {q : QR} (h : WQ q) {t : UInt64} (he : (ackQ q t).2.1 = 0) : Gn q (ackQ q t).2.2 (ackQ q t).1.id := by
  unfold ackQ withQ at he ⊢
  cases hh : q.hld.lookup t with
  | none => rw [hh] at he; simp at he
  | some i =>
    rw [hh] at he
    dsimp only at he ⊢
    split at he
    · rename_i k
      exact absurd he k
    · rename_i k
      rw [if_neg k]
      obtain ⟨h1, h2⟩ := held_look h hh
      refine Gn.bec h1 ?_
      unfold ackL at k ⊢
      split
      · rfl
      · rename_i k2; rw [if_neg k2] at k; simp at k
theorem dead_look {q : QR} (h : WQ q) {i : UInt64} {s : Int} (he : (deadQ q i s).1 = 0) : look q i = some (getI q i) ∧ (getI q i).id = i ∧ (deadQ q i s).2 = becQ q (getI q i) ⟨s, 0, 0, 0⟩ := by
  unfold deadQ at he ⊢
  dsimp only at he ⊢
  split at he
  · rename_i k
    exact absurd he k
  · rename_i k
    rw [if_neg k]
    unfold deadL at k ⊢
    split at k
    · rename_i k2
      rw [if_pos k2]
      cases hz : look q i with
      | none =>
        unfold getI at k2
        rw [hz] at k2
        exact absurd k2 (by decide)
      | some z =>
        obtain ⟨h1, h2⟩ := h.get hz
        rw [h1]
        exact ⟨rfl, h2, rfl⟩
    · exact absurd (by decide) k
/-- What the law knows of a queue: n messages were put, as P says; G says who is gone. -/
structure KI (P : List Ai) (G : List Int) (q : QR) : Prop where
  ln : G.length = P.length
  nx : q.next.toNat = P.length + 1
  lk : ∀ i (h : i < P.length), (look q (UInt64.ofNat (i + 1))).map core = if G[i]? = some 0 then some (P[i].lane, P[i].sg, P[i].ps, P[i].size) else none
  g1 : ∀ g ∈ G, g = 0 ∨ g = 1
theorem KI.kp {P : List Ai} {G : List Int} {q r : QR} (h : KI P G q) (k : Kp q r) : KI P G r := ⟨h.ln, by rw [k.2]; exact h.nx, fun i hi => by rw [k.1]; exact h.lk i hi, h.g1⟩
theorem KI.gn {P : List Ai} {G : List Int} {q r : QR} (h : KI P G q) (hq : WQ q) (hP : P.length ≤ 1000) {i : UInt64} (k : Gn q r i) : ∃ j, j < P.length ∧ i.toNat = j + 1 ∧ G[j]? = some 0 ∧ KI P (G.set j 1) r := by
  obtain ⟨k1, k2, k3⟩ := k
  obtain ⟨z, hz⟩ := Option.isSome_iff_exists.1 k1
  have hr := hq.it _ (look_in hz)
  have hid := hq.idz hz
  have h1 := hr.ida
  have h2 := hr.idn
  dsimp only at h1 h2
  rw [← hid] at h1 h2
  have hlt : i.toNat < P.length + 1 := by
    rcases h2 with h2 | h2
    · have := h.nx; rw [h2] at this; simp at this
    · rw [UInt64.lt_iff_toNat_lt, h.nx] at h2; exact h2
  obtain ⟨j, hj⟩ : ∃ j, i.toNat = j + 1 := ⟨i.toNat - 1, by omega⟩
  have hjP : j < P.length := by omega
  have hij : i = UInt64.ofNat (j + 1) := by
    refine UInt64.toNat_inj.1 ?_
    rw [UInt64.toNat_ofNat', hj]
    omega
  have hg : G[j]? = some 0 := by
    have := h.lk j hjP
    rw [← hij, hz] at this
    refine Classical.byContradiction fun c => ?_
    rw [if_neg c] at this
    cases this
  refine ⟨j, hjP, hj, hg, by rw [List.length_set]; exact h.ln, by rw [k3]; exact h.nx, fun a ha => ?_, fun g hg => ?_⟩
  · rw [k2]
    by_cases e : a = j
    · subst e
      have hl := h.ln
      rw [if_pos hij.symm, List.getElem?_set_self (by omega), if_neg (by simp)]
    · have hne : ¬ UInt64.ofNat (a + 1) = i := fun c => by
        have := congrArg UInt64.toNat c
        rw [UInt64.toNat_ofNat', hj] at this
        omega
      rw [if_neg hne, List.getElem?_set_ne (by omega)]
      exact h.lk a ha
  · rcases List.mem_or_eq_of_mem_set hg with k | k
    · exact h.g1 g k
    · exact .inr k
theorem KI.put {N : Nat} {P : List Ai} {G : List Int} {q : QR} (h : KI P G q) (hq : XQ N q) (hP : P.length ≤ 1000) {a : Ai} (he : (putQ q a.lane a.n a.sg a.ps a.size).2.1 = 0) :
    (putQ q a.lane a.n a.sg a.ps a.size).1.toNat = P.length + 1 ∧ KI (P ++ [a]) (G ++ [0]) (putQ q a.lane a.n a.sg a.ps a.size).2.2 := by
  unfold putQ at he ⊢
  split at he
  · simp at he
  rename_i c1
  rw [if_neg c1]
  split at he
  · simp at he
  rename_i c2
  rw [if_neg c2]
  split at he
  · simp at he
  rename_i c3
  rw [if_neg c3]
  split at he
  · rename_i k; exact absurd he k
  rename_i c4
  rw [if_neg c4]
  dsimp only
  obtain ⟨-, hs⟩ := (wait_d l0 q.now a.n (by simpa using c4))
  have hs1 := (wait_d l0 q.now a.n (by simpa using c4)).1
  obtain ⟨l, hl⟩ : ∃ l, (waitL l0 q.now.toNat a.n.toNat).1 = l := ⟨_, rfl⟩
  rw [hl] at hs1 ⊢
  refine ⟨h.nx, by rw [List.length_append, List.length_append, h.ln]; rfl, ?_, fun i hi => ?_, fun g hg => ?_⟩
  · show (q.next + 1).toNat = _
    have := h.nx
    rw [UInt64.toNat_add, show (1 : UInt64).toNat = 1 from rfl, List.length_append, List.length_singleton]
    omega
  · show (look (becQ q (newI q a.lane a.sg a.ps a.size) l) _).map core = _
    rw [look_bec (by omega)]
    unfold entG
    rw [if_neg (by show ¬ l.s = 5; omega)]
    unfold setG delG
    by_cases e : i = P.length
    · subst e
      have e1 : UInt64.ofNat (P.length + 1) = q.next := by
        refine UInt64.toNat_inj.1 ?_
        rw [UInt64.toNat_ofNat', h.nx]
        omega
      rw [if_pos (show UInt64.ofNat (P.length + 1) = (becI q (newI q a.lane a.sg a.ps a.size) l).id from e1), List.getElem?_append_right (by rw [h.ln]; exact Nat.le_refl _), h.ln, Nat.sub_self, if_pos (show ([0] : List Int)[0]? = some 0 from rfl), List.getElem_append_right (Nat.le_refl _)]
      simp only [Nat.sub_self, List.getElem_cons_zero]
      rfl
    · rw [List.length_append, List.length_singleton] at hi
      have hiP : i < P.length := by omega
      have hne : ¬ UInt64.ofNat (i + 1) = q.next := fun c => by
        have := congrArg UInt64.toNat c
        rw [UInt64.toNat_ofNat', h.nx] at this
        omega
      rw [if_neg (show ¬ UInt64.ofNat (i + 1) = (becI q (newI q a.lane a.sg a.ps a.size) l).id from hne), if_neg (show ¬ UInt64.ofNat (i + 1) = (newI q a.lane a.sg a.ps a.size).id from hne), List.getElem?_append_left (by rw [h.ln]; exact hiP), List.getElem_append_left hiP]
      exact h.lk i hiP
  · rcases List.mem_append.1 hg with k | k
    · exact h.g1 g k
    · rw [List.mem_singleton] at k; exact .inl k
/-- Act by act. -/
structure KA (P : List Ai) (G : List Int) (a : Ai) (A : An) (q' : QR) : Prop where
  er : A.e ≠ 0 → KI P G q'
  pt : A.e = 0 → a.dn = 0 → A.id.toNat = P.length + 1 ∧ KI (P ++ [a]) (G ++ [0]) q'
  ak : A.e = 0 → a.dn = 2 → ∃ j, j < P.length ∧ A.it.id.toNat = j + 1 ∧ G[j]? = some 0 ∧ KI P (G.set j 1) q'
  pu : A.e = 0 → a.dn = 7 → ∃ j, j < P.length ∧ a.id.toNat = j + 1 ∧ G[j]? = some 0 ∧ KI P (G.set j 1) q'
  ot : A.e = 0 → a.dn ≠ 0 → a.dn ≠ 2 → a.dn ≠ 7 → KI P G q'
theorem keeps_other {N : Nat} {q : QR} (h : XQ N q) (hN : N + 300 ≤ 5000000000000000000) (a : Ai) : ∀ k : Kd, k ≠ .a0 → k ≠ .a2 → k ≠ .a7 → (actB q a k).1.e = 0 → Kp q (actB q a k).2
  | .a0, c, _, _, _ => absurd rfl c
  | .a1, _, _, _, he => by
    rw [actB1]
    show Kp q (leaseQ q a.lane a.n).2.2
    unfold leaseQ
    split
    · exact Kp.refl q
    split
    · exact Kp.refl q
    rename_i c1 c2
    dsimp only
    split
    · exact Kp.refl q
    rename_i c3
    obtain ⟨i, hz, hs⟩ := peekQ_some h.wi.wq a.lane (by simpa using c2)
    have hid := h.wi.wq.idz hz
    have hk : (leaseL (peekQ q a.lane).1.l q.now.toNat a.n.toNat (q.leases + 1).toNat).1.s = 3 := by
      unfold leaseL at c3 ⊢
      split
      · rename_i k; rw [if_pos k] at c3; simp at c3
      · rename_i k
        rw [if_neg k] at c3
        split
        · rename_i k2; rw [if_pos k2] at c3; simp at c3
        · rename_i k2
          rw [if_neg k2] at c3
          split
          · rename_i k3; rw [if_pos k3] at c3; simp at c3
          · rfl
    exact Kp.bec (q := { q with leases := q.leases + 1 }) (by rw [← hid]; exact hz) (by omega)
  | .a2, _, c, _, _ => absurd rfl c
  | .a3, _, _, _, he => by
    rw [actB3]
    refine with_keeps h.wi.wq fun x hx => ?_
    unfold nackL at hx ⊢
    split
    · rename_i k
      rw [if_pos k] at hx
      split
      · rename_i k2
        rw [show endL x q.del = ⟨4, x.c, 0, 0⟩ from if_pos k2]
        exact .inr (.inr (.inr rfl))
      · rename_i k2
        rw [if_neg k2] at hx
        have := (wait_d x q.now a.n hx).1
        omega
    · rename_i k; rw [if_neg k] at hx; simp at hx
  | .a4, _, _, _, he => by
    rw [actB4]
    refine with_keeps h.wi.wq fun x hx => ?_
    unfold extendL at hx ⊢
    split
    · rename_i k
      rw [if_pos k] at hx
      split
      · rename_i k2; rw [if_pos k2] at hx; simp at hx
      · rename_i k2
        rw [if_neg k2] at hx
        split
        · rename_i k3; rw [if_pos k3] at hx; simp at hx
        · exact .inr (.inr (.inl rfl))
    · rename_i k; rw [if_neg k] at hx; simp at hx
  | .a5, _, _, _, he => by
    have hk : Kp q (tickQ q a.n).2.2 := by
      unfold tickQ
      split
      · exact Kp.refl q
      · have := Kp.tickL 201 (q := { q with now := q.now + a.n }) (h.wi.wq.clock _) (by have := h.wi.lo.tu; show q.turns.toNat + 201 < _; omega)
        generalize Go.Proofs.YtcfgafododiioaaGreatDoor.tickL 201 { q with now := q.now + a.n } = T at this ⊢
        exact this
    obtain ⟨T, hT⟩ : ∃ T, tickQ q a.n = T := ⟨_, rfl⟩
    rw [actB5, hT]
    rw [hT] at hk
    exact hk
  | .a6, _, _, _, he => by
    rw [actB6] at he ⊢
    obtain ⟨h1, h2, h3⟩ := dead_look h.wi.wq (s := 1) he
    show Kp q (deadQ q a.id 1).2
    rw [h3]
    exact Kp.bec (by rw [h2]; exact h1) (.inl rfl)
  | .a7, _, _, c, _ => absurd rfl c
  | .a8, _, _, _, he => by rw [actB8]; exact ⟨fun _ => rfl, rfl⟩
  | .a9, _, _, _, he => by
    rw [actB9]
    have hp := sortW_perm (lesI q)
    have hl1 : (lesI q).length ≤ 200 := Nat.le_trans (List.length_filter_le _ _) (by rw [List.length_map]; exact h.wi.wq.ln)
    exact Kp.resL _ h.wi.wq (fun z hz => les_in h.wi.wq (hp.mem_iff.1 hz)) (by rw [(hp.map It.id).nodup_iff]; exact les_nd h.wi.wq) (by rw [hp.length_eq]; have := h.wi.lo.tu; omega)
  | .a10, _, _, _, _ => by rw [actB10]; exact Kp.refl q
  | .a11, _, _, _, _ => by rw [actB11]; exact Kp.refl q
theorem kind_dn (a : Ai) : (kindI a = .a0 → a.dn = 0) ∧ (kindI a = .a2 → a.dn = 2) ∧ (kindI a = .a7 → a.dn = 7) := by
  unfold kindI
  by_cases h0 : a.dn = 0
  · rw [if_pos h0]
    exact ⟨fun _ => h0, (fun c => by cases c), (fun c => by cases c)⟩
  rw [if_neg h0]
  by_cases h1 : a.dn = 1
  · rw [if_pos h1]
    exact ⟨(fun c => by cases c), (fun c => by cases c), (fun c => by cases c)⟩
  rw [if_neg h1]
  by_cases h2 : a.dn = 2
  · rw [if_pos h2]
    exact ⟨(fun c => by cases c), fun _ => h2, (fun c => by cases c)⟩
  rw [if_neg h2]
  by_cases h3 : a.dn = 3
  · rw [if_pos h3]
    exact ⟨(fun c => by cases c), (fun c => by cases c), (fun c => by cases c)⟩
  rw [if_neg h3]
  by_cases h4 : a.dn = 4
  · rw [if_pos h4]
    exact ⟨(fun c => by cases c), (fun c => by cases c), (fun c => by cases c)⟩
  rw [if_neg h4]
  by_cases h5 : a.dn = 5
  · rw [if_pos h5]
    exact ⟨(fun c => by cases c), (fun c => by cases c), (fun c => by cases c)⟩
  rw [if_neg h5]
  by_cases h6 : a.dn = 6
  · rw [if_pos h6]
    exact ⟨(fun c => by cases c), (fun c => by cases c), (fun c => by cases c)⟩
  rw [if_neg h6]
  by_cases h7 : a.dn = 7
  · rw [if_pos h7]
    exact ⟨(fun c => by cases c), (fun c => by cases c), fun _ => h7⟩
  rw [if_neg h7]
  by_cases h8 : a.dn = 8
  · rw [if_pos h8]
    exact ⟨(fun c => by cases c), (fun c => by cases c), (fun c => by cases c)⟩
  rw [if_neg h8]
  by_cases h9 : a.dn = 9
  · rw [if_pos h9]
    exact ⟨(fun c => by cases c), (fun c => by cases c), (fun c => by cases c)⟩
  rw [if_neg h9]
  by_cases h10 : a.dn = 10
  · rw [if_pos h10]
    exact ⟨(fun c => by cases c), (fun c => by cases c), (fun c => by cases c)⟩
  rw [if_neg h10]
  exact ⟨(fun c => by cases c), (fun c => by cases c), (fun c => by cases c)⟩
theorem keeps_act {N : Nat} {q : QR} {P : List Ai} {G : List Int} (h : XQ N q) (hN : N + 300 ≤ 5000000000000000000) (k : KI P G q) (hP : P.length ≤ 1000) (a : Ai) : KA P G a (actI q a).1 (actI q a).2 := by
  have k0 : a.dn = 0 → kindI a = .a0 := fun e => by unfold kindI; rw [if_pos e]
  have k2 : a.dn = 2 → kindI a = .a2 := fun e => by unfold kindI; rw [if_neg (by omega), if_neg (by omega), if_pos e]
  have k7 : a.dn = 7 → kindI a = .a7 := fun e => by unfold kindI; rw [if_neg (by omega), if_neg (by omega), if_neg (by omega), if_neg (by omega), if_neg (by omega), if_neg (by omega), if_neg (by omega), if_pos e]
  refine ⟨fun e => ?_, fun e d => ?_, fun e d => ?_, fun e d => ?_, fun e d0 d2 d7 => ?_⟩
  · rw [(act_err e).1]; exact k
  · unfold actI at e ⊢
    rw [k0 d, actB0] at e ⊢
    exact k.put h hP e
  · unfold actI at e ⊢
    rw [k2 d, actB2] at e ⊢
    exact k.gn h.wi.wq hP (ack_goes h.wi.wq e)
  · unfold actI at e ⊢
    rw [k7 d, actB7] at e ⊢
    obtain ⟨h1, h2, h3⟩ := dead_look h.wi.wq (s := 5) e
    refine k.gn h.wi.wq hP ?_
    show Gn q (deadQ q a.id 5).2 a.id
    rw [h3]
    have := Gn.bec (q := q) (z := getI q a.id) (by rw [h2]; exact h1) (l := ⟨5, 0, 0, 0⟩) rfl
    rw [h2] at this
    exact this
  · obtain ⟨m0, m2, m7⟩ := kind_dn a
    have n0 : kindI a ≠ .a0 := fun c => d0 (m0 c)
    have n2 : kindI a ≠ .a2 := fun c => d2 (m2 c)
    have n7 : kindI a ≠ .a7 := fun c => d7 (m7 c)
    exact k.kp (keeps_other h hN a _ n0 n2 n7 e)
theorem KI.start {la pa de : Int} {q : QR} (h : MadeR 0 la pa de s0R q) : KI [] [] q := by
  have h1 : q.next = 1 := congrArg SR.next h.st
  exact ⟨rfl, by rw [h1]; rfl, fun i hi => by simp at hi, fun g hg => by simp at hg⟩
/-- How many are left. -/
def leftG (G : List Int) : Nat := (G.filter fun g => decide (g = 0)).length
theorem left_range : ∀ G : List Int, ((List.range G.length).filter fun j => decide (G[j]? = some 0)).length = leftG G
  | [] => rfl
  | g :: t => by
    have ih := left_range t
    have e : ((fun j => decide ((g :: t)[j]? = some 0)) ∘ Nat.succ) = fun j => decide (t[j]? = some 0) := by
      funext j
      show decide ((g :: t)[j + 1]? = some 0) = _
      rw [List.getElem?_cons_succ]
    unfold leftG at ih ⊢
    rw [List.length_cons, List.range_succ_eq_map, List.filter_cons, List.filter_cons, List.filter_map, e]
    by_cases h : g = 0
    · rw [if_pos (by rw [h]; rfl), if_pos (by rw [h]; rfl), List.length_cons, List.length_cons, List.length_map, ih]
    · rw [if_neg (by simpa using h), if_neg (by simpa using h), List.length_map, ih]
theorem KI.its {N : Nat} {P : List Ai} {G : List Int} {q : QR} (h : KI P G q) (hq : XQ N q) (hP : P.length ≤ 1000) : q.its.length = leftG G := by
  have hl := h.ln
  have hw := hq.wi.wq
  have hm : ∀ i : UInt64, i ∈ q.its.map Prod.fst ↔ ∃ j, j < P.length ∧ G[j]? = some 0 ∧ i = UInt64.ofNat (j + 1) := fun i => by
    have e : i ∈ q.its.map Prod.fst ↔ (look q i).isSome = true := by
      constructor
      · intro hi
        obtain ⟨y, hy, rfl⟩ := List.mem_map.1 hi
        rw [hw.lkz hy]; rfl
      · intro hi
        obtain ⟨z, hz⟩ := Option.isSome_iff_exists.1 hi
        exact List.mem_map.2 ⟨_, look_in hz, rfl⟩
    rw [e]
    constructor
    · intro hi
      obtain ⟨z, hz⟩ := Option.isSome_iff_exists.1 hi
      have hr := hw.it _ (look_in hz)
      have hid := hw.idz hz
      have h1 := hr.ida
      have h2 := hr.idn
      dsimp only at h1 h2
      rw [← hid] at h1 h2
      have hlt : i.toNat < P.length + 1 := by
        rcases h2 with h2 | h2
        · have := h.nx; rw [h2] at this; simp at this
        · rw [UInt64.lt_iff_toNat_lt, h.nx] at h2; exact h2
      have hij : i = UInt64.ofNat (i.toNat - 1 + 1) := by
        refine UInt64.toNat_inj.1 ?_
        rw [UInt64.toNat_ofNat']
        omega
      refine ⟨i.toNat - 1, by omega, ?_, hij⟩
      have := h.lk (i.toNat - 1) (by omega)
      rw [← hij, hz] at this
      refine Classical.byContradiction fun c => ?_
      rw [if_neg c] at this
      cases this
    · rintro ⟨j, hj, hg, rfl⟩
      have := h.lk j hj
      rw [if_pos hg] at this
      cases hz : look q (UInt64.ofNat (j + 1)) with
      | none => rw [hz] at this; cases this
      | some z => rfl
  have h1 : (q.its.map Prod.fst).Perm (((List.range P.length).filter fun j => decide (G[j]? = some 0)).map fun j => UInt64.ofNat (j + 1)) := by
    refine (List.perm_ext_iff_of_nodup hw.nd ?_).2 fun i => ?_
    · unfold List.Nodup
      rw [List.pairwise_map]
      refine (List.nodup_range.sublist List.filter_sublist).imp_of_mem fun {a b} ha hb hab e => hab ?_
      have ha := List.mem_range.1 (List.mem_filter.1 ha).1
      have hb := List.mem_range.1 (List.mem_filter.1 hb).1
      have := congrArg UInt64.toNat e
      rw [UInt64.toNat_ofNat', UInt64.toNat_ofNat'] at this
      omega
    · rw [hm, List.mem_map]
      constructor
      · rintro ⟨j, a, b, c⟩
        exact ⟨j, List.mem_filter.2 ⟨List.mem_range.2 a, by simpa using b⟩, c.symm⟩
      · rintro ⟨j, a, b⟩
        obtain ⟨c, d⟩ := List.mem_filter.1 a
        exact ⟨j, List.mem_range.1 c, by simpa using d, b.symm⟩
  have h2 := h1.length_eq
  rw [List.length_map, List.length_map] at h2
  rw [h2, ← hl]
  exact left_range G
--END
end Go.Proofs.YtcfgafododiioaaGreatDoor
