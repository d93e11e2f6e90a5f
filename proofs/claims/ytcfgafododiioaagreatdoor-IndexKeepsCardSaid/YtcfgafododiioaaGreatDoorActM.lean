/- The queue: how it is set stays. -/
import Derived.Test.YtcfgafododiioaaGreatDoorC1
import Derived.Test.YtcfgafododiioaaGreatDoorC2
import Derived.Test.YtcfgafododiioaaGreatDoorC3
import Derived.Test.YtcfgafododiioaaGreatDoorC4
import Derived.Test.YtcfgafododiioaaGreatDoorC5
import Derived.Test.YtcfgafododiioaaGreatDoorC6
import Derived.Test.YtcfgafododiioaaGreatDoorC7
import Derived.Test.YtcfgafododiioaaGreatDoorC8
import Derived.Test.YtcfgafododiioaaGreatDoorC9
import Derived.Test.YtcfgafododiioaaGreatDoorC10
import Derived.Test.YtcfgafododiioaaGreatDoorC11
import Derived.Test.YtcfgafododiioaaGreatDoorC12
import Derived.Test.YtcfgafododiioaaGreatDoorC13
import Derived.Test.YtcfgafododiioaaGreatDoorC14
import Derived.Test.YtcfgafododiioaaGreatDoorC15
import Derived.Test.YtcfgafododiioaaGreatDoorC16
import Derived.Test.YtcfgafododiioaaGreatDoorC17
import Derived.Test.YtcfgafododiioaaGreatDoorC18
import Derived.Test.YtcfgafododiioaaGreatDoorC19
import Derived.Test.YtcfgafododiioaaGreatDoorC20
import Derived.Test.YtcfgafododiioaaGreatDoorC21
import Derived.Test.YtcfgafododiioaaGreatDoorC22
import Derived.Test.YtcfgafododiioaaGreatDoorC23
import Derived.Test.YtcfgafododiioaaGreatDoorC24
import Derived.Test.YtcfgafododiioaaGreatDoorC25
import Derived.Test.YtcfgafododiioaaGreatDoorC26
import Derived.Test.YtcfgafododiioaaGreatDoorC27
import Derived.Test.YtcfgafododiioaaGreatDoorC28
import Derived.Test.YtcfgafododiioaaGreatDoorC29
import Derived.Test.YtcfgafododiioaaGreatDoorC30
import Derived.Test.YtcfgafododiioaaGreatDoorC31
import Derived.Test.YtcfgafododiioaaGreatDoorC32
import Derived.Test.YtcfgafododiioaaGreatDoorC33
import Derived.Test.YtcfgafododiioaaGreatDoorC34
import Derived.Test.YtcfgafododiioaaGreatDoorC35
import Derived.Test.YtcfgafododiioaaGreatDoorC36
import Derived.Test.YtcfgafododiioaaGreatDoorC37
import Derived.Test.YtcfgafododiioaaGreatDoorC38
import Derived.Test.YtcfgafododiioaaGreatDoorC39
import Derived.Test.YtcfgafododiioaaGreatDoorC40
import Derived.Test.YtcfgafododiioaaGreatDoorC41
import Derived.Test.YtcfgafododiioaaGreatDoorC42
import Derived.Test.YtcfgafododiioaaGreatDoorC43
import Derived.Test.YtcfgafododiioaaGreatDoorC44
import Derived.Test.YtcfgafododiioaaGreatDoorC45
set_option linter.unusedSimpArgs false
set_option linter.unusedVariables false
namespace Go.Proofs.YtcfgafododiioaaGreatDoor
open Go Go.RowKit Go.Tum Go.ChangeMaps Go.Sort

--BEGIN
def Set3 (q r : QR) : Prop := r.lanes = q.lanes ∧ r.pay = q.pay ∧ r.del = q.del
theorem Set3.refl (q : QR) : Set3 q q := ⟨rfl, rfl, rfl⟩
theorem Set3.trans {a b c : QR} (h : Set3 a b) (k : Set3 b c) : Set3 a c := ⟨k.1.trans h.1, k.2.1.trans h.2.1, k.2.2.trans h.2.2⟩
theorem Set3.bec (q : QR) (z : It) (l : L) : Set3 q (becQ q z l) := by
  obtain ⟨a1, a2, a3, -⟩ := becQ_same q z l
  exact ⟨a1, a2, a3⟩
theorem Set3.tickL : ∀ (k : Nat) (q : QR), Set3 q (Go.Proofs.YtcfgafododiioaaGreatDoor.tickL k q).2
  | 0, q => Set3.refl q
  | k + 1, q => by
    unfold Go.Proofs.YtcfgafododiioaaGreatDoor.tickL
    split
    · exact Set3.refl q
    · exact (Set3.bec q _ _).trans (Set3.tickL k _)
theorem Set3.resL (d : Int) : ∀ (l : List It) (q : QR), Set3 q (Go.Proofs.YtcfgafododiioaaGreatDoor.resL d l q)
  | [], q => Set3.refl q
  | z :: r, q => by
    unfold Go.Proofs.YtcfgafododiioaaGreatDoor.resL
    exact (Set3.bec q _ _).trans (Set3.resL d r _)
theorem Set3.with (q : QR) (t : UInt64) (f : L → L × Int) : Set3 q (withQ q t f).2.2 := by
  unfold withQ
  split
  · exact Set3.refl q
  · dsimp only
    split
    · exact Set3.refl q
    · exact Set3.bec q _ _
theorem Set3.dead (q : QR) (i : UInt64) (s : Int) : Set3 q (deadQ q i s).2 := by
  unfold deadQ
  dsimp only
  split
  · exact Set3.refl q
  · exact Set3.bec q _ _
theorem Set3.actB (q : QR) (a : Ai) : ∀ k : Kd, Set3 q (Go.Proofs.YtcfgafododiioaaGreatDoor.actB q a k).2
  | .a0 => by
    rw [actB0]
    show Set3 q (putQ q a.lane a.n a.sg a.ps a.size).2.2
    unfold putQ
    split
    · exact Set3.refl q
    split
    · exact Set3.refl q
    split
    · exact Set3.refl q
    split
    · exact Set3.refl q
    exact Set3.bec q _ _
  | .a1 => by
    rw [actB1]
    show Set3 q (leaseQ q a.lane a.n).2.2
    unfold leaseQ
    split
    · exact Set3.refl q
    split
    · exact Set3.refl q
    dsimp only
    split
    · exact Set3.refl q
    exact Set3.bec { q with leases := q.leases + 1 } _ _
  | .a2 => by rw [actB2]; exact Set3.with q _ _
  | .a3 => by rw [actB3]; exact Set3.with q _ _
  | .a4 => by rw [actB4]; exact Set3.with q _ _
  | .a5 => by
    have hk : Set3 q (tickQ q a.n).2.2 := by
      unfold tickQ
      split
      · exact Set3.refl q
      · have := Set3.tickL 201 { q with now := q.now + a.n }
        generalize Go.Proofs.YtcfgafododiioaaGreatDoor.tickL 201 { q with now := q.now + a.n } = T at this ⊢
        exact this
    obtain ⟨T, hT⟩ : ∃ T, tickQ q a.n = T := ⟨_, rfl⟩
    rw [actB5, hT]
    rw [hT] at hk
    exact hk
  | .a6 => by rw [actB6]; exact Set3.dead q _ _
  | .a7 => by rw [actB7]; exact Set3.dead q _ _
  | .a8 => by rw [actB8]; exact Set3.refl q
  | .a9 => by rw [actB9]; exact Set3.resL _ _ q
  | .a10 => by rw [actB10]; exact Set3.refl q
  | .a11 => by rw [actB11]; exact Set3.refl q
theorem Set3.act (q : QR) (a : Ai) : Set3 q (actI q a).2 := Set3.actB q a _
theorem act_tick (q : QR) (t : UInt64) {T : Nat × Int × QR} (hT : tickQ q t = T) : actI q ⟨5, 0, 0, 0, t, [], 0, 0, 0⟩ = ({ an0 with many := (T.1 : Int), e := T.2.1 }, T.2.2) := by
  show actB q _ (kindI _) = _
  rw [show kindI ⟨5, 0, 0, 0, t, [], 0, 0, 0⟩ = Kd.a5 by unfold kindI; simp, actB5]
  dsimp only
  rw [hT]
theorem act_tick2 {N : Nat} {q : QR} (h : XQ N q) (hN : N + 300 ≤ 5000000000000000000) (t : UInt64) {T : Nat × Int × QR} (hT : tickQ q t = T) : XQ (N + 300) T.2.2 := by
  have := h.act hN ⟨5, 0, 0, 0, t, [], 0, 0, 0⟩
  rw [act_tick q t hT] at this
  exact this
--END
end Go.Proofs.YtcfgafododiioaaGreatDoor
