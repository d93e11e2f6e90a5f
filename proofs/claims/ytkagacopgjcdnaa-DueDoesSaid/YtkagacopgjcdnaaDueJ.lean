/- The law's own: awake. -/
import Derived.Test.YtkagacopgjcdnaaDueI
set_option linter.unusedSimpArgs false
set_option linter.unusedVariables false
namespace Go.Proofs.Ytkagacopgjcdnaa
open Go Go.RowKit Go.Tum Go.ChangeMaps Go.Tum.Hp

set_option maxHeartbeats 1000000 in
theorem awake_any (w : World) : Calls Try.prog 6 #[] w fun e w' => e = .returned (.bool true) ∧ Ext w w' := by
  go_enter Try.func6, Try.ntmps6
  go_wp2_with fail
  refine (hnew_any _ w.heap.size (Nat.le_refl _)).mono ?_
  rintro e w1 ⟨p, mt, mp, rfl, H1, E1⟩
  have B1 : Below w.heap.size w w1 := E1
  clear E1
  go_wp2_with fail
  refine (hput_any w.heap.size _ p mt mp _ _ _ 1 5 H1 (by simp) B1.size).mono ?_
  rintro e w2 ⟨-, h2⟩
  obtain ⟨rfl, r2, v2, P2, H2, b2, -⟩ := h2 (by simp)
  have B2 := B1.trans b2
  have M2 : ∀ y, y ∈ r2 ↔ y = 1 := fun y => by rw [P2.mem_iff]; simp
  have N2 : r2.length = 1 := by rw [P2.length_eq]; rfl
  clear b2 h2 H1 B1 P2
  go_wp2_with fail
  refine (hput_any w.heap.size _ p mt mp _ _ _ 2 3 H2 (by omega) B2.size).mono ?_
  rintro e w3 ⟨-, h3⟩
  obtain ⟨rfl, r3, v3, P3, H3, b3, -⟩ := h3 (by rw [M2]; decide)
  have B3 := B2.trans b3
  have M3 : ∀ y, y ∈ r3 ↔ y = 1 ∨ y = 2 := fun y => by rw [P3.mem_iff, List.mem_append, M2]; simp
  have N3 : r3.length = 2 := by rw [P3.length_eq, List.length_append, N2]; rfl
  clear b3 h3 H2 B2 P3 M2 N2
  go_wp2_with fail
  refine (hput_any w.heap.size _ p mt mp _ _ _ 1 9 H3 (by omega) B3.size).mono ?_
  rintro e w4 ⟨h4, -⟩
  obtain ⟨rfl, rfl⟩ := h4 (by rw [M3]; simp)
  have t1 : tim (setF (setF (fun _ => none) 1 ((5 : UInt64).toNat : Int)) 2 ((3 : UInt64).toNat : Int)) 1 = 5 := by simp [tim, setF]
  have t2 : tim (setF (setF (fun _ => none) 1 ((5 : UInt64).toNat : Int)) 2 ((3 : UInt64).toNat : Int)) 2 = 3 := by simp [tim, setF]
  obtain ⟨A3, hA3⟩ : ∃ A, setF (setF (fun _ => none) 1 ((5 : UInt64).toNat : Int)) 2 ((3 : UInt64).toNat : Int) = A := ⟨_, rfl⟩
  rw [hA3] at H3 t1 t2
  clear h4
  go_wp2_with fail
  refine (htake_any w.heap.size _ p mt mp _ _ _ 9 H3 (by omega) B3.size).mono ?_
  rintro e w5 h5
  rcases h5 with ⟨h5, -⟩ | ⟨x, r, hr, -, he, r5, v5, P5, H5, b5, -⟩
  · exfalso
    rcases h5 with rfl | ⟨x, r, rfl, hlt⟩
    · simp at N3
    · rcases (M3 x).1 (by simp) with rfl | rfl
      · rw [t1] at hlt; exact absurd hlt (by decide)
      · rw [t2] at hlt; exact absurd hlt (by decide)
  · have hx : x = 2 := by
      subst hr
      have hle := H3.least
      rcases (M3 x).1 (by simp) with rfl | rfl
      · have := hle 2 ((M3 2).2 (by simp))
        unfold keyI at this
        rw [t1, t2] at this
        exact absurd this (by decide)
      · rfl
    subst hx
    rw [t2] at he
    subst he
    have B5 := B3.trans b5
    have M5 : ∀ y, y ∈ r5 ↔ y = 1 := fun y => by
      have h1 : y ∈ (2 :: r5) ↔ y ∈ r3 := P5.mem_iff
      rw [M3] at h1
      have hnd := (List.nodup_cons.1 (P5.nodup_iff.2 H3.tr.nd)).1
      constructor
      · intro hy
        rcases h1.1 (by simp [hy]) with h | h
        · exact h
        · subst h; exact absurd hy hnd
      · rintro rfl
        have := h1.2 (.inl rfl)
        simpa using this
    have N5 : r5.length = 1 := by have := P5.length_eq; simp at this; omega
    clear b5 B3 H3 M3 N3 P5 hr
    go_wp2_with fail
    refine (hmove_any w.heap.size _ p mt mp _ _ _ 1 7 H5 (by omega) B5.size).mono ?_
    rintro e w6 ⟨-, h6⟩
    obtain ⟨rfl, r6, v6, P6, H6, b6, -⟩ := h6 (by rw [M5])
    have B6 := B5.trans b6
    have M6 : ∀ y, y ∈ r6 ↔ y = 1 := fun y => by rw [P6.mem_iff, M5]
    have N6 : r6.length = 1 := by rw [P6.length_eq, N5]
    clear b6 h6 H5 B5 M5 N5 P6
    have t6 : tim (setF (delF A3 2) 1 ((7 : UInt64).toNat : Int)) 1 = 7 := by simp [tim, setF]
    go_wp2_with fail
    refine (htake_any w.heap.size _ p mt mp _ _ _ 6 H6 (by omega) B6.size).mono ?_
    rintro e w7 h7
    rcases h7 with ⟨-, rfl, E7⟩ | ⟨x, r, hr, hle, -⟩
    · have H7 := H6.ext E7
      have B7 : Below w.heap.size w w7 := B6.trans (Below.mono E7 B6.size)
      clear E7 H6 B6
      have HN := hid N6
      clear N6
      go_wp2_with fail
      refine (hlen_any w.heap.size _ p mt mp _ _ _ H7).mono ?_
      rintro e w8 ⟨rfl, rfl⟩
      rw [HN.out]
      go_wp2_with fail
      refine (hdrop_any w.heap.size _ p mt mp _ _ _ 1 H7 (by have := HN.out; omega) B7.size).mono ?_
      rintro e w8 ⟨-, h8⟩
      obtain ⟨rfl, r8, v8, P8, H8, b8, -⟩ := h8 (by rw [M6])
      have B8 := B7.trans b8
      have N8 := hid (show r8.length = 0 by have a := P8.length_eq; have b := HN.out; rw [List.length_cons] at a; omega)
      clear b8 h8 H7 B7 P8
      go_wp2_with fail
      refine (hlen_any w.heap.size _ p mt mp _ _ _ H8).mono ?_
      rintro e w9 ⟨rfl, rfl⟩
      rw [N8.out]
      go_wp2
      go_ret
      exact ⟨rfl, B8⟩
    · exfalso
      subst hr
      obtain rfl := (M6 x).1 (by simp)
      rw [t6] at hle
      exact absurd hle (by decide)
end Go.Proofs.Ytkagacopgjcdnaa
