/- LaneRow. -/
import Derived.Test.YtlnghgalmhmegaaLanG
import Derived.Test.YtlnghgalmhmegaaOpenV
set_option linter.unusedSimpArgs false
set_option linter.unusedVariables false
namespace Go.Proofs.Ytlnghgalmhmegaa
open Go Go.RowKit Go.Tum Go.ChangeMaps Go.Shelf

theorem Lane.notrow {w : World} {p m g : Nat} {l : List (UInt64 × Nat)} (h : Lane w p m l) {cs : Array Value} (hg : w.heap[g]? = some (.cells cs 23 (0, 0))) : ∀ x ∈ Bl p m l, x ≠ g := by
  rintro x hx rfl
  simp only [List.mem_cons, List.mem_map] at hx
  rcases hx with rfl | rfl | ⟨q, hq, rfl⟩
  · rw [h.hd] at hg; simp at hg
  · obtain ⟨es, c, h2⟩ := h.mp.block
    rw [h2] at hg; cases hg
  · obtain ⟨a, b, h1⟩ := h.ch.mem q hq
    rw [h1] at hg; simp at hg
/-- An append to a row of ids leaves a lane. -/
theorem LB.grown {B b : Nat} {w w' : World} {p m : Nat} {l : List (UInt64 × Nat)} {I r : List UInt64} {v : Value} (h : LB B w p m l I) (ho : OwV vU w b 23 v r) (k : w.grownBy w' v.ownBlock) (e : Below 0 w w') : LB B w' p m l I := by
  rcases ho.2 with ⟨rfl, _⟩ | ⟨g, cap, cur, rfl, hb, hgg, rest⟩
  · refine h.fr (S := []) ⟨e.os, e.tape, e.output, e.size, fun j hj _ => k.block j hj (by simp [Value.ownBlock])⟩ (by simp)
  · refine h.fr (S := [g]) ⟨e.os, e.tape, e.output, e.size, fun j hj hn => k.block j hj (by simpa [Value.ownBlock] using hn)⟩ fun x hx => ?_
    have := h.ln.notrow hgg x hx
    simpa using this
/-- An act on a lane leaves a row of ids. -/
theorem owv_lane {b : Nat} {w w' : World} {p m : Nat} {l : List (UInt64 × Nat)} {r : List UInt64} {v : Value} (ho : OwV vU w b 23 v r) (h : Lane w p m l) (k : Fr (Bl p m l) w w') : OwV vU w' b 23 v r := by
  refine ⟨ho.1, ?_⟩
  rcases ho.2 with hn | ⟨g, cap, cur, hv, hb, hgg, rest⟩
  · exact .inl hn
  · exact .inr ⟨g, cap, cur, hv, hb, by rw [k.block g (Array.getElem?_eq_some_iff.1 hgg).1 (fun hm => h.notrow hgg g hm rfl)]; exact hgg, rest⟩

def rowI (X : List UInt64) : List UInt64 := X.foldl (fun I x => putL x I) []
theorem rowI_succ (X : List UInt64) (k : Nat) (h : k < X.length) : rowI (X.take (k + 1)) = putL X[k] (rowI (X.take k)) := by
  unfold rowI
  rw [List.take_succ_eq_append_getElem h, List.foldl_append]
  rfl
theorem putL_len (x : UInt64) (I : List UInt64) : (putL x I).length ≤ I.length + 1 := by
  unfold putL; split <;> simp
theorem rowI_len (X : List UInt64) : ∀ k, k ≤ X.length → (rowI (X.take k)).length ≤ k
  | 0, _ => by simp [rowI]
  | k + 1, h => by
    rw [rowI_succ X k (by omega)]
    have := putL_len X[k] (rowI (X.take k))
    have := rowI_len X k (by omega)
    omega
theorem putL_nd (x : UInt64) (I : List UInt64) (h : I.Nodup) : (putL x I).Nodup := by
  unfold putL; split
  · exact h
  · rename_i hn
    rw [List.nodup_append]
    exact ⟨h, by simp, fun a ha b hb e => hn (by simp at hb; rw [← hb, ← e]; exact ha)⟩
theorem rowI_nd (X : List UInt64) : (rowI X).Nodup := by
  have : ∀ (X I : List UInt64), I.Nodup → (X.foldl (fun I x => putL x I) I).Nodup := by
    intro X
    induction X with
    | nil => intro I h; exact h
    | cons x r ih => intro I h; exact ih _ (putL_nd x I h)
  exact this X [] (by simp)
theorem drop_head {R : List UInt64} {k : Nat} (h : k < R.length) : firstI (R.drop k) = .tuple #[vU R[k], .bool true] := by
  rw [List.drop_eq_getElem_cons h]; rfl
theorem drop_nd {R : List UInt64} {k : Nat} (hn : R.Nodup) (h : k < R.length) : decide (R[k] ∈ R.drop (k + 1)) = false := by
  have : (R.drop k).Nodup := hn.sublist (List.drop_sublist k R)
  rw [List.drop_eq_getElem_cons h] at this
  have := (List.nodup_cons.1 this).1
  simpa using this

set_option maxRecDepth 100000 in
set_option maxHeartbeats 1000000 in
theorem laneRow_law (v : Value) (X : List UInt64) (w : World) (hb : Vec vU w v X) :
    Calls Try.prog 4 #[v] w fun e w' => e = .returned (.bool true) ∧ Ext w w' := by
  obtain ⟨ao, cap, rfl, hle, hm, hnn, hcell⟩ := hb.open
  have HC := hid hcell
  have HNN := hid hnn
  clear hb hcell hnn
  go_enter Try.func4, Try.ntmps4
  go_wp2_with fail
  refine (awake_any _).mono ?_
  rintro e w1 ⟨rfl, hw⟩
  have HE1 := hid hw
  clear hw
  by_cases h1 : 200 < X.length
  · have hd : decide ((200 : Int) < X.length) = true := by simp; omega
    go_wp2
    go_ret
    exact ⟨rfl, HE1.out⟩
  have hd : decide ((200 : Int) < X.length) = false := by simp; omega
  go_wp2_with fail
  clear hd
  refine (new_b w.heap.size _ HE1.out.size).mono ?_
  rintro e w2 ⟨p, m, rfl, L2, E2, -, -⟩
  have HE2 := hid (HE1.out.trans E2)
  have HL2 := hid L2
  clear L2 E2 HE1
  go_wp2
  go_loopw [4, 21] (fun o i wr => ∃ (k : Nat) (bo : Option Addr) (bc : Nat) (l1 : List (UInt64 × Nat)), k ≤ X.length ∧ i = .int .i64 k ∧ o = .slice bo (rowI (X.take k)).length bc ∧ Hid (LB w.heap.size wr p m l1 (rowI (X.take k))) ∧
      Hid (OwV vU wr w.heap.size 23 (.slice bo (rowI (X.take k)).length bc) (rowI (X.take k))) ∧ Hid (Ext w wr)) (fun _ i _ => X.length - (intOf i).toNat)
  case atStart => exact ⟨0, none, 0, [], by omega, rfl, rfl, HL2, hid (OwV.nil _ _ _), HE2⟩
  case round =>
    obtain ⟨k, bo, bc, l1, hk, rfl, rfl, HL, HO, HE⟩ := hrel
    by_cases hlt : k < X.length
    · obtain ⟨a, rfl⟩ := HNN.out (by omega)
      have hc := HE.out.cell (HC.out a rfl k hlt)
      have hi1 : decide ((k : Int) < X.length) = true := by simp; omega
      have HS := hid (rowI_succ X k hlt)
      have HN := hid (rowI_len X k hk)
      obtain ⟨I, hI⟩ : ∃ I, rowI (X.take k) = I := ⟨_, rfl⟩
      rw [hI] at HL HO HS HN
      rw [hI]
      clear hI
      obtain ⟨x, hx⟩ : ∃ x, X[k] = x := ⟨_, rfl⟩
      rw [hx] at hc HS
      clear hx
      go_wp2_with fail
      refine (put_b w.heap.size _ p m _ I x HL.out (by have := HN.out; omega) HE.out.size).mono ?_
      rintro e w3 ⟨he, l3, L3, F3, b3, -⟩
      have HE3 := hid (Below.trans HE.out b3)
      have HO3 := hid (owv_lane HO.out HL.out.ln F3)
      clear F3 b3 hc
      by_cases hin : x ∈ I
      · rw [show decide (x ∉ I) = false by simpa using hin] at he
        have hpi : putL x I = I := by unfold putL; rw [if_pos hin]
        rw [hpi] at L3 HS
        subst he
        have HL3 := hid L3
        clear L3
        go_wp2_with fail
        refine (has_b w.heap.size _ p m _ _ x HL3.out).mono ?_
        rintro e w4 ⟨rfl, rfl⟩
        rw [show decide (x ∈ I) = true by simpa using hin]
        go_wp2
        go_roundw
        case rel => exact ⟨k + 1, bo, bc, l3, by omega, by go_num, by rw [HS.out], by rw [HS.out]; exact HL3, by rw [HS.out]; exact HO3, HE3⟩
        case measure => simp [intOf]; omega
      · rw [show decide (x ∉ I) = true by simpa using hin] at he
        have hpi : putL x I = I ++ [x] := by unfold putL; rw [if_neg hin]
        rw [hpi] at L3 HS
        subst he
        have HL3 := hid L3
        clear L3
        go_wp2_with (at_builtin; refine wpList_append_vec uv_one rfl (.tmp 28) (.tmp 30) 28 rfl w.heap.size 23 Try.underlying28 info64 rfl rfl (HO3.out.ext (Ext.alloc _ _)) rfl (Vec.one _ _ _ x rfl) (I.length + 1) rfl (by have := HN.out; omega) (by have := HN.out; omega) (Nat.le_trans HE3.out.size (by simp)) ?_; intro ao4 cap4 w4 hO4 hg4 hb4; have HL4 := hid ((HL3.out.ext (Ext.alloc _ _)).grown (HO3.out.ext (Ext.alloc _ _)) hg4 (Below.mono hb4 (Nat.zero_le _))); have HE4 := hid (Below.trans (HE3.out.trans (Below.mono (Ext.alloc _ _) HE3.out.size)) hb4); have HO4 := hid hO4; clear hO4 hg4 hb4)
        refine (has_b w.heap.size _ p m _ _ x HL4.out).mono ?_
        rintro e w5 ⟨rfl, rfl⟩
        rw [show decide (x ∈ I ++ [x]) = true by simp]
        go_wp2
        go_roundw
        case rel => exact ⟨k + 1, ao4, cap4, l3, by omega, by go_num, by rw [HS.out]; simp, by rw [HS.out]; exact HL4, by rw [HS.out]; simpa using HO4, HE4⟩
        case measure => simp [intOf]; omega
    · obtain rfl : k = X.length := by omega
      have hi1 : decide ((X.length : Int) < X.length) = false := by simp
      have HN := hid (rowI_len X X.length hk)
      rw [List.take_length] at HL HO HN
      rw [List.take_length]
      have hnd := rowI_nd X
      obtain ⟨R, hR⟩ : ∃ R, rowI X = R := ⟨_, rfl⟩
      rw [hR] at HL HO HN hnd
      rw [hR]
      have HD := hid hnd
      clear hR hnd
      go_wp2_with fail
      refine (all_b w.heap.size _ p m _ _ HL.out (by have := HN.out; omega)).mono ?_
      rintro e w3 ⟨u, rfl, O3, E3⟩
      obtain ⟨uo, uc, rfl⟩ := O3.shape
      have HL3 := hid (HL.out.ext E3)
      have HO3 := hid (HO.out.ext E3)
      have HE3 := hid (HE.out.trans E3)
      have HU3 := hid O3.vec
      clear O3 E3 HL HO HE
      go_wp2_with fail
      refine (rsame64_any _ _ R R _ HU3.out HO3.out.vec).mono ?_
      rintro e w4 ⟨rfl, E4⟩
      rw [show (R == R) = true by simp]
      have HL4 := hid (HL3.out.ext E4)
      have HO4 := hid (HO3.out.ext E4)
      have HE4 := hid (HE3.out.trans E4)
      clear E4 HL3 HO3 HE3 HU3
      go_wp2_with fail
      refine (len_b w.heap.size _ p m _ _ HL4.out).mono ?_
      rintro e w5 ⟨rfl, rfl⟩
      have hne : ((R.length : Int) != (R.length : Int)) = false := by simp
      go_wp2
      clear hne
      go_loopw [51] (fun i wr => ∃ (k : Nat) (l1 : List (UInt64 × Nat)), k ≤ R.length ∧ i = .int .i64 k ∧ Hid (LB w.heap.size wr p m l1 (R.drop k)) ∧
          Hid (OwV vU wr w.heap.size 23 (.slice bo R.length bc) R) ∧ Hid (Ext w wr)) (fun i _ => R.length - (intOf i).toNat)
      case atStart => exact ⟨0, l1, by omega, rfl, HL4, HO4, HE4⟩
      case round =>
        obtain ⟨k2, l2, hk2, rfl, HL5, HO5, HE5⟩ := hrel
        have hk3 : k2 ≤ 200 := by have := HN.out; omega
        by_cases hlt2 : k2 < R.length
        · obtain ⟨-, h2, h3, h4, h5⟩ := HO5.out.vec.opens
          obtain ⟨g, rfl⟩ := h4 (by omega)
          have hc := h5 g rfl k2 hlt2
          clear h2 h3 h4 h5
          have hi2 : decide ((k2 : Int) < R.length) = true := by simp; omega
          have HF := hid (drop_head hlt2)
          have HA := hid (drop_nd HD.out hlt2)
          obtain ⟨x, hx⟩ : ∃ x, R[k2] = x := ⟨_, rfl⟩
          rw [hx] at hc HF HA
          clear hx
          go_wp2_with fail
          refine (take_b w.heap.size _ p m _ _ HL5.out HE5.out.size).mono ?_
          rintro e w6 ⟨he, l6, L6, F6, b6, -⟩
          rw [HF.out] at he
          subst he
          rw [List.tail_drop] at L6
          have HL6 := hid L6
          have HO6 := hid (owv_lane HO5.out HL5.out.ln F6)
          have HE6 := hid (Below.trans HE5.out b6)
          clear L6 F6 b6 hc
          have hne : ((x.toNat : Int) != (x.toNat : Int)) = false := by simp
          go_wp2_with fail
          refine (has_b w.heap.size _ p m _ _ x HL6.out).mono ?_
          rintro e w7 ⟨rfl, rfl⟩
          rw [HA.out]
          go_wp2
          go_roundw
          case rel => exact ⟨k2 + 1, l6, by omega, by go_num, HL6, HO6, HE6⟩
          case measure => simp [intOf]; omega
        · obtain rfl : k2 = R.length := by omega
          have hi2 : decide ((R.length : Int) < R.length) = false := by simp
          rw [List.drop_length] at HL5
          go_wp2_with fail
          refine (take_b w.heap.size _ p m _ _ HL5.out HE5.out.size).mono ?_
          rintro e w6 ⟨rfl, l6, L6, F6, b6, -⟩
          rw [show firstI [] = .tuple #[.int .u64 0, .bool false] from rfl]
          have HL6 := hid L6
          have HE6 := hid (Below.trans HE5.out b6)
          clear L6 F6 b6
          go_wp2_with fail
          refine (len_b w.heap.size _ p m _ _ HL6.out).mono ?_
          rintro e w7 ⟨rfl, rfl⟩
          rw [show (([] : List UInt64).tail.length) = 0 from rfl]
          go_wp2
          go_ret
          exact ⟨rfl, HE6.out⟩
end Go.Proofs.Ytlnghgalmhmegaa
