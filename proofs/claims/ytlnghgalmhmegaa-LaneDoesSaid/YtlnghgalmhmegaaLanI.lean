/- LaneDropped. -/
import Derived.Test.YtlnghgalmhmegaaLanH
set_option linter.unusedSimpArgs false
set_option linter.unusedVariables false
namespace Go.Proofs.Ytlnghgalmhmegaa
open Go Go.RowKit Go.Tum Go.ChangeMaps Go.Shelf

abbrev Act2 := Int × UInt64
abbrev a2cells (z : Act2) : List Value := [.int .i64 z.1, vU z.2]
theorem flatMap_same2 {α β : Type} {f g : α → List β} : ∀ {l : List α}, (∀ x ∈ l, f x = g x) → l.flatMap f = l.flatMap g
  | [], _ => rfl
  | x :: r, h => by rw [List.flatMap_cons, List.flatMap_cons, h x (by simp), flatMap_same2 fun y hy => h y (List.mem_cons_of_mem _ hy)]
theorem acts2_of {w : World} {v : Value} {l : List (List Int)} (h : RowsOf w 2 v (fun z => ([IntKind.i64, .u64].zip z).map fun y => Value.int y.1 y.2) l)
    (hw : ∀ z ∈ l, z.length = 2 ∧ ∀ y ∈ [IntKind.i64, .u64].zip z, (Lit.int y.1 y.2).wf = true) :
    ∃ m : List Act2, RowsOf w 2 v a2cells m := by
  refine ⟨l.map fun z => (z.getD 0 0, UInt64.ofNat (z.getD 1 0).toNat), fun x _ => rfl, ?_⟩
  have e : (l.map fun z => ((z.getD 0 0, UInt64.ofNat (z.getD 1 0).toNat) : Act2)).flatMap a2cells = l.flatMap (fun z => ([IntKind.i64, .u64].zip z).map fun y => Value.int y.1 y.2) := by
    rw [List.flatMap_map]
    refine flatMap_same2 fun z hz => ?_
    obtain ⟨h1, h2⟩ := hw z hz
    match z, h1 with
    | [a, b], _ =>
      have h3 := h2 (.u64, b) (by simp)
      have hb : 0 ≤ b ∧ b ≤ 18446744073709551615 := by simpa [Lit.wf, IntKind.min, IntKind.max, IntKind.signed, IntKind.bits] using h3
      simp [a2cells]
      omega
  rw [e, List.length_map]
  exact h.2

theorem box2 {w : World} {b : Nat} {p q : Value} {ty : TypeId} (h : w.heap[b]? = some (.cells #[p, q] ty (0, 0))) : w.cell? ⟨b, 0, none⟩ = some p ∧ w.cell? ⟨b, 1, none⟩ = some q :=
  ⟨by rw [cell_of_row _ _ _ _ _ _ h]; rfl, by rw [cell_of_row _ _ _ _ _ _ h]; rfl⟩
theorem disj_step {S T T' : List Nat} {n : Nat} (D : ∀ x ∈ S, x ∉ T) (G : ∀ q ∈ T', q ∈ T ∨ n ≤ q) (hs : ∀ x ∈ S, x < n) : ∀ x ∈ S, x ∉ T' := fun x hx hx2 => by
  rcases G x hx2 with h | h
  · exact D x hx h
  · have := hs x hx; omega
theorem disj_comm {S T : List Nat} (D : ∀ x ∈ S, x ∉ T) : ∀ x ∈ T, x ∉ S := fun x hx h => D x h hx
theorem drop_put_same (x : UInt64) (I : List UInt64) : dropL x (putL x I) = dropL x I := by
  unfold dropL putL; split
  · rfl
  · simp
theorem drop_put_other {x id : UInt64} (I : List UInt64) (h : x ≠ id) : dropL id (putL x I) = putL x (dropL id I) := by
  unfold dropL putL
  by_cases hx : x ∈ I
  · rw [if_pos hx, if_pos (by simp [hx, h])]
  · rw [if_neg hx, if_neg (by simp [hx])]
    simp [h]
theorem drop_drop_same (x : UInt64) (I : List UInt64) : dropL x (dropL x I) = dropL x I := by simp [dropL]
theorem drop_drop_other {x id : UInt64} (I : List UInt64) (h : x ≠ id) : dropL id (dropL x I) = dropL x (dropL id I) := by
  simp [dropL, List.filter_filter, Bool.and_comm]
theorem dropL_len (x : UInt64) (I : List UInt64) : (dropL x I).length ≤ I.length := List.length_filter_le _ _
theorem dropL_not (x : UInt64) (I : List UInt64) : decide (x ∈ dropL x I) = false := by simp [dropL]

set_option maxRecDepth 100000 in
set_option maxHeartbeats 1000000 in
theorem laneDropped_law (v : Value) (X : List Act2) (id : UInt64) (w : World) (hb : RowsOf w 2 v a2cells X) :
    Calls Try.prog 5 #[v, vU id] w fun e w' => e = .returned (.bool true) ∧ Ext w w' := by
  obtain ⟨ao, cap, rfl, hle, hm, hnn, hcell⟩ := hb.open
  have HC := hid hcell
  have HNN := hid hnn
  clear hb hcell hnn
  go_enter Try.func5, Try.ntmps5
  go_wp2_with fail
  refine (awake_any _).mono ?_
  rintro e w1 ⟨rfl, hw⟩
  have HE1 := hid hw
  clear hw
  by_cases h1 : 200 < X.length
  · have hd : decide ((200 : Int) < X.length) = true := by simp; omega
    go_wp2
    go_ret
    exact ⟨rfl, HE1.out⟩
  have hd : decide ((200 : Int) < X.length) = false := by simp; omega
  go_wp2_with fail
  clear hd
  refine (new_b w.heap.size _ HE1.out.size).mono ?_
  rintro e w2 ⟨p, m, rfl, L2, E2, -, -⟩
  have HE2 := hid (HE1.out.trans E2)
  have HL2 := hid L2
  clear L2 E2 HE1
  go_wp2_with fail
  refine (new_b w.heap.size _ HE2.out.size).mono ?_
  rintro e w3 ⟨p', m', rfl, L3, E3, g1, g2⟩
  have HE3 := hid (HE2.out.trans E3)
  have HL3 := hid (HL2.out.ext E3)
  have HM3 := hid L3
  have HD3 : Hid (∀ x ∈ Bl p m [], x ∉ Bl p' m' []) := hid (by
    intro x hx hx2
    have h1 := HL2.out.lt x hx
    simp at hx2
    rcases hx2 with rfl | rfl <;> omega)
  clear L3 E3 g1 g2 HE2 HL2
  go_wp2
  go_loopw [19] (fun i wr => ∃ (k : Nat) (l1 l2 : List (UInt64 × Nat)) (I : List UInt64), k ≤ X.length ∧ i = .int .i64 k ∧ Hid (I.length ≤ k) ∧ Hid (LB w.heap.size wr p m l1 I) ∧ Hid (LB w.heap.size wr p' m' l2 (dropL id I)) ∧
      Hid (∀ x ∈ Bl p m l1, x ∉ Bl p' m' l2) ∧ Hid (Ext w wr)) (fun i _ => X.length - (intOf i).toNat)
  case atStart => exact ⟨0, [], [], [], by omega, rfl, hid (Nat.le_refl _), HL3, HM3, HD3, HE3⟩
  case round =>
    obtain ⟨k, l1, l2, I, hk, rfl, HN, HL, HM, HD, HE⟩ := hrel
    by_cases hlt : k < X.length
    · obtain ⟨a, rfl⟩ := HNN.out (by omega)
      have c0 := cell_first (HE.out.cell (HC.out a rfl k hlt 0 _ rfl))
      have c1 := cell_next (HE.out.cell (HC.out a rfl k hlt 1 _ rfl)) (by decide)
      obtain ⟨d, hd⟩ : ∃ d, X[k].1 = d := ⟨_, rfl⟩
      obtain ⟨x, hx⟩ : ∃ x, X[k].2 = x := ⟨_, rfl⟩
      rw [hd] at c0
      rw [hx] at c1
      clear hd hx
      have hi1 : decide ((k : Int) < X.length) = true := by simp; omega
      have HL4 := hid (HL.out.ext (Ext.alloc wr (.cells #[.int .i64 d, vU x] 32)))
      have HM4 := hid (HM.out.ext (Ext.alloc wr (.cells #[.int .i64 d, vU x] 32)))
      have HE4 := hid (HE.out.trans (Ext.alloc wr (.cells #[.int .i64 d, vU x] 32)))
      have HB4 := hid (heap_alloc_new wr (.cells #[.int .i64 d, vU x] 32))
      have HF4 : Hid (wr.heap.size ∉ Bl p m l1) := hid (fun hm => Nat.lt_irrefl _ (HL.out.lt _ hm))
      by_cases hd1 : d = 1
      · subst hd1
        go_wp2
        go_roundw
        case rel => exact ⟨k + 1, l1, l2, I, by omega, by go_num, hid (Nat.le_succ_of_le HN.out), HL4, HM4, HD, HE4⟩
        case measure => simp [intOf]; omega
      have hd1' : (d == (1 : Int)) = false := by simp [hd1]
      clear hd1
      by_cases hd0 : d = 0
      · subst hd0
        go_wp2_with fail
        refine (put_b w.heap.size _ p m _ I x HL4.out (by have := HN.out; omega) HE4.out.size).mono ?_
        rintro e w5 ⟨he, l5, L5, F5, b5, G5⟩
        generalize (decide (x ∉ I)) = bb at he
        subst he
        have HD5 := hid (disj_comm (disj_step (disj_comm HD.out) G5 (fun x hx => HM4.out.lt x hx)))
        have HM5 := hid (HM4.out.fr F5 (disj_comm HD.out))
        have HL5 := hid L5
        have HE5 := hid (Below.trans HE4.out b5)
        obtain ⟨c2, c3⟩ := box2 ((F5.block wr.heap.size (by simp) HF4.out).trans HB4.out)
        have HN5 : Hid ((putL x I).length ≤ k + 1) := hid (by have := putL_len x I; have := HN.out; omega)
        clear L5 F5 b5 G5 HL4 HM4 HB4 HF4 HE4 c0 c1
        by_cases hx : x = id
        · have hne : ((x.toNat : Int) != (id.toNat : Int)) = false := by simp [hx]
          have HS := hid (drop_put_same x I)
          go_wp2
          go_roundw
          case rel => exact ⟨k + 1, l5, l2, putL x I, by omega, by go_num, HN5, HL5, by rw [← hx, HS.out, hx]; exact HM5, HD5, HE5⟩
          case measure => simp [intOf]; omega
        · have hne : ((x.toNat : Int) != (id.toNat : Int)) = true := by
            simp; intro e; exact hx (UInt64.toNat_inj.1 (by omega))
          have HS := hid (drop_put_other I hx)
          go_wp2_with fail
          refine (put_b w.heap.size _ p' m' _ (dropL id I) x HM5.out (by have := dropL_len id I; have := HN.out; omega) HE5.out.size).mono ?_
          rintro e w6 ⟨he, l6, L6, F6, b6, G6⟩
          generalize (decide (x ∉ dropL id I)) = bc at he
          subst he
          have HD6 := hid (disj_step HD5.out G6 (fun x hx => HL5.out.lt x hx))
          have HL6 := hid (HL5.out.fr F6 HD5.out)
          have HM6 := hid L6
          have HE6 := hid (Below.trans HE5.out b6)
          clear L6 F6 b6 G6
          go_wp2
          go_roundw
          case rel => exact ⟨k + 1, l5, l6, putL x I, by omega, by go_num, HN5, HL6, by rw [HS.out]; exact HM6, HD6, HE6⟩
          case measure => simp [intOf]; omega
      · have hd0' : (d == (0 : Int)) = false := by simp [hd0]
        clear hd0
        go_wp2_with fail
        refine (drop_b w.heap.size _ p m _ I x HL4.out HE4.out.size).mono ?_
        rintro e w5 ⟨he, l5, L5, F5, b5, G5⟩
        generalize (decide (x ∈ I)) = bb at he
        subst he
        have HD5 := hid (disj_comm (disj_step (disj_comm HD.out) (fun q hq => .inl (G5 q hq)) (fun x hx => HM4.out.lt x hx)))
        have HM5 := hid (HM4.out.fr F5 (disj_comm HD.out))
        have HL5 := hid L5
        have HE5 := hid (Below.trans HE4.out b5)
        obtain ⟨c2, c3⟩ := box2 ((F5.block wr.heap.size (by simp) HF4.out).trans HB4.out)
        have HN5 : Hid ((dropL x I).length ≤ k + 1) := hid (by have := dropL_len x I; have := HN.out; omega)
        clear L5 F5 b5 G5 HL4 HM4 HB4 HF4 HE4 c0 c1
        by_cases hx : x = id
        · have hne : ((x.toNat : Int) != (id.toNat : Int)) = false := by simp [hx]
          have HS := hid (drop_drop_same x I)
          go_wp2
          go_roundw
          case rel => exact ⟨k + 1, l5, l2, dropL x I, by omega, by go_num, HN5, HL5, by rw [← hx, HS.out, hx]; exact HM5, HD5, HE5⟩
          case measure => simp [intOf]; omega
        · have hne : ((x.toNat : Int) != (id.toNat : Int)) = true := by
            simp; intro e; exact hx (UInt64.toNat_inj.1 (by omega))
          have HS := hid (drop_drop_other I hx)
          go_wp2_with fail
          refine (drop_b w.heap.size _ p' m' _ (dropL id I) x HM5.out HE5.out.size).mono ?_
          rintro e w6 ⟨he, l6, L6, F6, b6, G6⟩
          generalize (decide (x ∈ dropL id I)) = bc at he
          subst he
          have HD6 := hid (disj_step HD5.out (fun q hq => .inl (G6 q hq)) (fun x hx => HL5.out.lt x hx))
          have HL6 := hid (HL5.out.fr F6 HD5.out)
          have HM6 := hid L6
          have HE6 := hid (Below.trans HE5.out b6)
          clear L6 F6 b6 G6
          go_wp2
          go_roundw
          case rel => exact ⟨k + 1, l5, l6, dropL x I, by omega, by go_num, HN5, HL6, by rw [HS.out]; exact HM6, HD6, HE6⟩
          case measure => simp [intOf]; omega
    · obtain rfl : k = X.length := by omega
      have hi1 : decide ((X.length : Int) < X.length) = false := by simp
      go_wp2_with fail
      refine (has_b w.heap.size _ p m _ I id HL.out).mono ?_
      rintro e w5 ⟨rfl, rfl⟩
      obtain ⟨bb, hbb⟩ : ∃ bb, decide (id ∈ I) = bb := ⟨_, rfl⟩
      rw [hbb]
      go_wp2_with fail
      refine (drop_b w.heap.size _ p m _ I id HL.out HE.out.size).mono ?_
      rintro e w5 ⟨he, l5, L5, F5, b5, G5⟩
      rw [hbb] at he
      subst he
      have HM5 := hid (HM.out.fr F5 (disj_comm HD.out))
      have HL5 := hid L5
      have HE5 : Hid (Ext w w5) := hid (Below.trans HE.out b5)
      have HK := hid (Nat.le_trans (dropL_len id I) HN.out)
      have HX := hid (dropL_not id I)
      obtain ⟨J, hJ⟩ : ∃ J, dropL id I = J := ⟨_, rfl⟩
      rw [hJ] at HM5 HL5 HK HX
      clear L5 F5 b5 G5 hbb hJ HL HM HD HE
      go_wp2_with fail
      refine (all_b w.heap.size _ p m _ J HL5.out (by have := HK.out; omega)).mono ?_
      rintro e w6 ⟨u, rfl, O6, E6⟩
      obtain ⟨uo, uc, rfl⟩ := O6.shape
      have HM6 := hid (HM5.out.ext E6)
      have HE6 := hid (HE5.out.trans E6)
      have HU6 := hid O6.vec
      clear O6 E6 HL5 HM5 HE5
      go_wp2_with fail
      refine (all_b w.heap.size _ p' m' _ J HM6.out (by have := HK.out; omega)).mono ?_
      rintro e w7 ⟨y, rfl, O7, E7⟩
      obtain ⟨yo, yc, rfl⟩ := O7.shape
      have HM7 := hid (HM6.out.ext E7)
      have HE7 := hid (HE6.out.trans E7)
      have HU7 := hid (HU6.out.ext E7)
      have HY7 := hid O7.vec
      clear O7 E7 HM6 HE6 HU6
      go_wp2_with fail
      refine (rsame64_any _ _ J J _ HU7.out HY7.out).mono ?_
      rintro e w8 ⟨rfl, E8⟩
      rw [show (J == J) = true by simp]
      have HM8 := hid (HM7.out.ext E8)
      have HE8 := hid (HE7.out.trans E8)
      clear E8 HM7 HE7 HU7 HY7
      go_wp2_with fail
      refine (has_b w.heap.size _ p' m' _ J id HM8.out).mono ?_
      rintro e w9 ⟨rfl, rfl⟩
      rw [HX.out]
      go_wp2
      go_ret
      exact ⟨rfl, HE8.out⟩
end Go.Proofs.Ytlnghgalmhmegaa
