/- slices.Sort of any row of numbers. -/
import Derived.Test.YtpbmbjdiilnaeaaDoorSrtQ
set_option linter.unusedSimpArgs false
set_option linter.unusedVariables false
namespace Go.Proofs.YtpbmbjdiilnaeaaDoor
open Go Go.RowKit Go.Tum Go.ChangeMaps Go.Sort
open Go.ParB (upd Lof)
open Go.ParE (putS slotsR slots Closed)

set_option maxHeartbeats 1000000 in
theorem sortV_any {B : Nat} {w : World} (g n cap : Nat) (l : List UInt64) (h : RowU w B g n cap l) (hn : l.length = n) (hbig : n ≤ 4611686018427387903) :
    Calls Tryd.prog 30 #[.slice (some ⟨g, 0, none⟩) n cap] w fun e w' => (∃ u, e = .returned u) ∧ RowU w' B g n cap (l.mergeSort fun x y => decide (x ≤ y)) ∧ Fr [g] w w' := by
  have hra : RA w B g n cap l.toArray := ⟨by simpa using h, by simpa using hn⟩
  have hc := fun lim w2 hr => pdqV_any (B := B) g n cap hbig n 0 n lim l.toArray w2 (by omega) (by omega) (Nat.le_refl _) (.inl rfl) hr
  have HC := hid hc
  have HR := hid hra
  have HN := hid hn
  have hbl : ∀ w2, Calls Tryd.prog 39 #[.int .u64 (n : Int)] w2 fun e w3 => (∃ k : Int, e = .returned (.int .i64 k)) ∧ w3 = w2 := fun w2 => (Tryd.bits_Len n w2 (by omega) (by omega)).mono fun _ _ hh => ⟨⟨_, hh.1⟩, hh.2⟩
  have HBL := hid hbl
  have hwu : IntKind.u64.wrap (n : Int) = (n : Int) := by rw [IntKind.wrap_u64]; omega
  clear h hc hn hbl hra
  go_enter Tryd.func30, Tryd.ntmps30
  go_wp2_with fail
  refine (HBL.out w).mono ?_
  rintro e w1 ⟨⟨k, rfl⟩, rfl⟩
  go_wp2_with fail
  refine (HC.out k _ HR.out).mono ?_
  rintro e w2 ⟨⟨u, rfl⟩, ⟨d', hp, hs, hr⟩, hf⟩
  have HE : Hid (d'.toList = l.mergeSort fun x y => decide (x ≤ y)) := hid (by
    have hz : l.toArray.size = n := by simpa using HN.out
    have := sorted_unique_holds (lt := ltU) swoU (fun x y h1 h2 => by
      simp only [ltU, decide_eq_false_iff_not, UInt64.lt_iff_toNat_lt] at h1 h2
      exact UInt64.toNat_inj.1 (by omega)) l.toArray d' (by rw [hz]; exact hp) (by rw [hz]; exact hs)
    rw [this]
    congr 1
    funext x y
    rw [Bool.eq_iff_iff]
    simp [ltU, UInt64.lt_iff_toNat_lt, UInt64.le_iff_toNat_le])
  have HR2 := hid hr
  have HF := hid hf
  clear hr hf hp hs
  go_wp2
  go_returns
  exact ⟨⟨_, rfl⟩, by rw [← HE.out]; exact HR2.out.row, HF.out⟩
end Go.Proofs.YtpbmbjdiilnaeaaDoor
