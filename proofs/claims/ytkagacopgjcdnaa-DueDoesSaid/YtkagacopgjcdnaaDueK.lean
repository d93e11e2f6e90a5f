/- DueRises. -/
import Derived.Test.YtkagacopgjcdnaaDueJ
import Derived.Test.YtkagacopgjcdnaaOpenV
set_option linter.unusedSimpArgs false
set_option linter.unusedVariables false
namespace Go.Proofs.Ytkagacopgjcdnaa
open Go Go.RowKit Go.Tum Go.ChangeMaps Go.Tum.Hp

abbrev Act3 := Int × UInt64 × UInt64
abbrev a3cells (z : Act3) : List Value := [.int .i64 z.1, vU z.2.1, vU z.2.2]
theorem flatMap_same2 {α β : Type} {f g : α → List β} : ∀ {l : List α}, (∀ x ∈ l, f x = g x) → l.flatMap f = l.flatMap g
  | [], _ => rfl
  | x :: r, h => by rw [List.flatMap_cons, List.flatMap_cons, h x (by simp), flatMap_same2 fun y hy => h y (List.mem_cons_of_mem _ hy)]
theorem acts3_of {w : World} {v : Value} {l : List (List Int)} (h : RowsOf w 3 v (fun z => ([IntKind.i64, .u64, .u64].zip z).map fun y => Value.int y.1 y.2) l)
    (hw : ∀ z ∈ l, z.length = 3 ∧ ∀ y ∈ [IntKind.i64, .u64, .u64].zip z, (Lit.int y.1 y.2).wf = true) :
    ∃ m : List Act3, RowsOf w 3 v a3cells m := by
  refine ⟨l.map fun z => (z.getD 0 0, UInt64.ofNat (z.getD 1 0).toNat, UInt64.ofNat (z.getD 2 0).toNat), fun x _ => rfl, ?_⟩
  have e : (l.map fun z => ((z.getD 0 0, UInt64.ofNat (z.getD 1 0).toNat, UInt64.ofNat (z.getD 2 0).toNat) : Act3)).flatMap a3cells = l.flatMap (fun z => ([IntKind.i64, .u64, .u64].zip z).map fun y => Value.int y.1 y.2) := by
    rw [List.flatMap_map]
    refine flatMap_same2 fun z hz => ?_
    obtain ⟨h1, h2⟩ := hw z hz
    match z, h1 with
    | [a, b, c], _ =>
      have h3 := h2 (.u64, b) (by simp)
      have h4 := h2 (.u64, c) (by simp)
      have hb : 0 ≤ b ∧ b ≤ 18446744073709551615 := by simpa [Lit.wf, IntKind.min, IntKind.max, IntKind.signed, IntKind.bits] using h3
      have hc : 0 ≤ c ∧ c ≤ 18446744073709551615 := by simpa [Lit.wf, IntKind.min, IntKind.max, IntKind.signed, IntKind.bits] using h4
      simp [a3cells]
      omega
  rw [e, List.length_map]
  exact h.2
/-- The first act's time of an id. -/
def fa : List Act3 → UInt64 → Option Int
  | [], _ => none
  | z :: r, x => if x = z.2.1 then some (z.2.2.toNat : Int) else fa r x
theorem fa_snoc (z : Act3) : ∀ (X : List Act3) (x : UInt64), fa (X ++ [z]) x = if (fa X x).isSome then fa X x else if x = z.2.1 then some (z.2.2.toNat : Int) else none
  | [], x => rfl
  | y :: r, x => by
    simp only [List.cons_append, fa]
    split
    · rfl
    · exact fa_snoc z r x
theorem fa_take {X : List Act3} {k : Nat} (h : k < X.length) (x : UInt64) : fa (X.take (k + 1)) x = if (fa (X.take k) x).isSome then fa (X.take k) x else if x = X[k].2.1 then some (X[k].2.2.toNat : Int) else none := by
  rw [List.take_succ_eq_append_getElem h, fa_snoc]
theorem fa_val : ∀ (X : List Act3) (x : UInt64), (fa X x).isSome = true → ∃ a : UInt64, fa X x = some (a.toNat : Int)
  | [], x, h => by simp [fa] at h
  | z :: r, x, h => by
    simp only [fa] at h ⊢
    split
    · exact ⟨z.2.2, rfl⟩
    · rename_i hn
      rw [if_neg hn] at h
      exact fa_val r x h
theorem fa_put {X : List Act3} {k : Nat} (h : k < X.length) (hn : (fa (X.take k) X[k].2.1).isSome = false) : setF (fa (X.take k)) X[k].2.1 (X[k].2.2.toNat : Int) = fa (X.take (k + 1)) := by
  funext y
  rw [fa_take h]
  unfold setF
  by_cases hy : y = X[k].2.1
  · rw [if_pos hy, hy, hn]; simp
  · rw [if_neg hy, if_neg hy]
    cases hf : fa (X.take k) y <;> simp
theorem fa_same {X : List Act3} {k : Nat} (h : k < X.length) (hn : (fa (X.take k) X[k].2.1).isSome = true) : fa (X.take k) = fa (X.take (k + 1)) := by
  funext y
  rw [fa_take h]
  by_cases hy : y = X[k].2.1
  · rw [hy, hn]; simp
  · rw [if_neg hy]
    cases hf : fa (X.take k) y <;> simp
/-- Found among the first ones, it stays. -/
theorem fa_mono : ∀ (X : List Act3) (k : Nat) (x : UInt64), (fa (X.take k) x).isSome = true → fa X x = fa (X.take k) x
  | [], k, x, h => by simp [fa] at h
  | z :: r, 0, x, h => by simp [fa] at h
  | z :: r, k + 1, x, h => by
    simp only [List.take_succ_cons, fa] at h ⊢
    split
    · rfl
    · rename_i hn
      rw [if_neg hn] at h
      exact fa_mono r k x h
theorem fa_here {X : List Act3} {k : Nat} (h : k < X.length) {x : UInt64} (hn : (fa (X.take k) x).isSome = false) (e : X[k].2.1 = x) : fa X x = some (X[k].2.2.toNat : Int) := by
  have h1 : fa (X.take (k + 1)) x = some (X[k].2.2.toNat : Int) := by rw [fa_take h, hn]; simp [e]
  rw [fa_mono X (k + 1) x (by rw [h1]; rfl), h1]

abbrev actO (d : Int) (x a : UInt64) : Obj := .cells #[.int .i64 d, vU x, vU a] 32 (0, 0)
theorem actO_ne {d : Int} {x a : UInt64} (cs : Array Value) : actO d x a ≠ .cells cs 23 (0, 0) := by simp
/-- An act's own block is none of the heap's. -/
theorem HB.other {B : Nat} {w w' : World} {p mt mp bx : Nat} {At : UInt64 → Option Int} {row : List UInt64} {v : Value} (h : HB B w p mt mp At row v) {d : Int} {x a : UInt64} (hb : w.heap[bx]? = some (actO d x a)) (f : Fr [bx] w w') : HB B w' p mt mp At row v := by
  obtain ⟨e1, c1, h1⟩ := h.tr.ti.block
  obtain ⟨e2, c2, h2⟩ := h.tr.pl.block
  have n1 : p ≠ bx := by rintro rfl; have := h.tr.hd; rw [hb] at this; simp at this
  have n2 : mt ≠ bx := by rintro rfl; rw [hb] at h1; cases h1
  have n3 : mp ≠ bx := by rintro rfl; rw [hb] at h2; cases h2
  refine ⟨⟨(f.block p (Array.getElem?_eq_some_iff.1 h.tr.hd).1 (by simpa using n1)).trans h.tr.hd, h.tr.ti.fr f (by simpa using n2), h.tr.pl.fr f (by simpa using n3), owv_fr h.tr.ow f (by
    intro q hq
    obtain rfl : q = bx := by simpa using hq
    exact ⟨_, hb, actO_ne⟩), h.tr.nd, h.tr.ne⟩, h.has, h.hp, h.bp, h.bt, h.bm⟩

theorem HB.nblk {B : Nat} {w : World} {p mt mp bx : Nat} {At : UInt64 → Option Int} {row : List UInt64} {v : Value} (h : HB B w p mt mp At row v) {d : Int} {x a : UInt64} (hb : w.heap[bx]? = some (actO d x a)) : bx ∉ Hb p mt mp v := by
  obtain ⟨e1, c1, h1⟩ := h.tr.ti.block
  obtain ⟨e2, c2, h2⟩ := h.tr.pl.block
  intro hm
  simp only [Hb, List.mem_cons] at hm
  rcases hm with rfl | rfl | rfl | hm
  · have := h.tr.hd; rw [hb] at this; simp at this
  · rw [hb] at h1; cases h1
  · rw [hb] at h2; cases h2
  · rcases h.tr.ow.2 with ⟨e, _⟩ | ⟨g, cap, cur, hv, _, hgg, _⟩
    · rw [e] at hm; simp [Value.ownBlock] at hm
    · rw [hv] at hm
      simp [Value.ownBlock] at hm
      subst hm
      rw [hb] at hgg; simp at hgg

set_option maxRecDepth 100000 in
set_option maxHeartbeats 2000000 in
theorem dueRises_law (v : Value) (X : List Act3) (w : World) (hb : RowsOf w 3 v a3cells X) :
    Calls Try.prog 4 #[v] w fun e w' => e = .returned (.bool true) ∧ Ext w w' := by
  obtain ⟨ao, cap, rfl, hle, hm, hnn, hcell⟩ := hb.open
  have HC := hid hcell
  have HNN := hid hnn
  clear hb hcell hnn
  go_enter Try.func4, Try.ntmps4
  go_wp2_with fail
  refine (awake_any _).mono ?_
  rintro e w1 ⟨rfl, hw⟩
  have HE1 := hid hw
  clear hw
  by_cases h1 : 200 < X.length
  · have hd : decide ((200 : Int) < X.length) = true := by simp; omega
    go_wp2
    go_ret
    exact ⟨rfl, HE1.out⟩
  have hd : decide ((200 : Int) < X.length) = false := by simp; omega
  go_wp2_with fail
  clear hd
  refine (hnew_any _ w.heap.size HE1.out.size).mono ?_
  rintro e w2 ⟨p, mt, mp, rfl, H2, E2⟩
  have HE2 : Hid (Ext w w2) := hid (HE1.out.trans E2)
  have HH2 : Hid (HB w.heap.size w2 p mt mp (fa (X.take 0)) [] (.slice none 0 0)) := hid H2
  clear H2 E2 HE1
  go_wp2
  go_loopw [4, 26] (fun cv iv wr => ∃ (k : Nat) (row : List UInt64) (rv : Value), k ≤ X.length ∧ iv = .int .i64 k ∧ cv = .int .i64 (row.length : Nat) ∧ row.length ≤ k ∧ Hid (HB w.heap.size wr p mt mp (fa (X.take k)) row rv) ∧ Hid (Ext w wr)) (fun _ iv _ => X.length - (intOf iv).toNat)
  case atStart => exact ⟨0, [], _, by omega, rfl, rfl, by simp, HH2, HE2⟩
  case round =>
    obtain ⟨k, row, rv, hk, rfl, rfl, hrk, HH, HE⟩ := hrel
    by_cases hlt : k < X.length
    · obtain ⟨a0, rfl⟩ := HNN.out (by omega)
      have c0 := cell_first (HE.out.cell (HC.out a0 rfl k hlt 0 _ rfl))
      have c1 := cell_next (HE.out.cell (HC.out a0 rfl k hlt 1 _ rfl)) (by decide)
      have c2 := cell_next (HE.out.cell (HC.out a0 rfl k hlt 2 _ rfl)) (by decide)
      have HPUT := hid (fa_put hlt)
      have HSAME := hid (fa_same hlt)
      obtain ⟨d, hd⟩ : ∃ d, X[k].1 = d := ⟨_, rfl⟩
      obtain ⟨x, hx⟩ : ∃ x, X[k].2.1 = x := ⟨_, rfl⟩
      obtain ⟨a, ha⟩ : ∃ a, X[k].2.2 = a := ⟨_, rfl⟩
      rw [hd] at c0
      rw [hx] at c1 HPUT HSAME
      rw [ha] at c2 HPUT
      clear hd hx ha
      have hi1 : decide ((k : Int) < X.length) = true := by simp; omega
      have HH4 := hid (HH.out.ext (Ext.alloc wr (actO d x a)))
      have HE4 : Hid (Ext w (wr.alloc (actO d x a))) := hid (HE.out.trans (Ext.alloc wr (actO d x a)))
      clear HH HE
      go_wp2_with fail
      refine (hput_any w.heap.size _ p mt mp _ row rv x a HH4.out (by omega) HE4.out.size).mono ?_
      rintro e w5 ⟨q1, q2⟩
      clear c0 c1 c2
      by_cases hin : x ∈ row
      · obtain ⟨rfl, rfl⟩ := q1 hin
        have hs : (fa (X.take k) x).isSome = true := by rw [HH4.out.has x]; simpa using hin
        have HS := hid (HSAME.out hs)
        clear q1 q2 hs hin
        go_wp2
        go_roundw
        case rel => exact ⟨k + 1, row, rv, by omega, by go_num, rfl, by omega, by rw [← HS.out]; exact HH4, HE4⟩
        case measure => simp [intOf]; omega
      · obtain ⟨rfl, row', v', hpm, H5, b5, -⟩ := q2 hin
        have hs : (fa (X.take k) x).isSome = false := by rw [HH4.out.has x]; simpa using hin
        have HS := hid (HPUT.out hs)
        have hlen : row'.length = row.length + 1 := by rw [hpm.length_eq]; simp
        have HLEN := hid hlen
        have HH5 := hid H5
        have HE5 : Hid (Ext w w5) := hid (Below.trans HE4.out b5)
        clear q1 q2 hs hin H5 b5 hpm hlen
        go_wp2
        go_roundw
        case rel => exact ⟨k + 1, row', v', by omega, by go_num, by rw [HLEN.out]; go_num, by rw [HLEN.out]; omega, by rw [← HS.out]; exact HH5, HE5⟩
        case measure => simp [intOf]; omega
    · obtain rfl : k = X.length := by omega
      have hi1 : decide ((X.length : Int) < X.length) = false := by simp
      rw [List.take_length] at HH
      obtain ⟨m, hm0⟩ : ∃ m, row.length = m := ⟨_, rfl⟩
      have HM0 := hid hm0
      rw [hm0] at hrk
      rw [hm0]
      clear hm0
      obtain ⟨wq, hwq⟩ : ∃ W, W = wr := ⟨_, rfl⟩
      subst hwq
      have HB0 := hid (heap_alloc_new wq (actO 0 0 0))
      have HHA := hid (HH.out.ext (Ext.alloc wq (actO 0 0 0)))
      have HEA : Hid (Ext w (wq.alloc (actO 0 0 0))) := hid (HE.out.trans (Ext.alloc wq (actO 0 0 0)))
      have HBX := hid HE.out.size
      clear HH HE
      go_wp2
      obtain ⟨bx, hbx⟩ : ∃ bx, wq.heap.size = bx := ⟨_, rfl⟩
      rw [hbx] at HB0 HBX
      rw [hbx]
      clear hbx
      go_loopw [40] (fun iv wr => ∃ (j : Nat) (row2 : List UInt64) (v2 : Value) (At2 : UInt64 → Option Int) (lid lat : UInt64), j ≤ m ∧ iv = .int .i64 j ∧ Hid (row2.length + j = m) ∧ Hid (HB w.heap.size wr p mt mp At2 row2 v2 ∧ ∀ y ∈ row2, At2 y = fa X y) ∧
          Hid (wr.heap[bx]? = some (actO 0 lid lat)) ∧ Hid (0 < j → ∀ y ∈ row2, (lat.toNat : Int) * 18446744073709551616 + (lid.toNat : Int) < keyI (fa X) y) ∧ Hid (Ext w wr)) (fun iv _ => m - (intOf iv).toNat)
      case atStart => exact ⟨0, row, rv, fa X, 0, 0, by omega, rfl, hid (by rw [HM0.out]; rfl), hid ⟨HHA.out, fun _ _ => rfl⟩, HB0, hid (fun h => absurd h (by omega)), HEA⟩
      case round =>
        obtain ⟨wj, hwj⟩ : ∃ W, W = wr := ⟨_, rfl⟩
        subst hwj
        clear HHA HEA HB0
        obtain ⟨j, row2, v2, At2, lid, lat, hj, rfl, HL2, HH2, HB2, HK2, HE2⟩ := hrel
        by_cases hjm : j < m
        · have hi2 : decide ((j : Int) < m) = true := by simp; omega
          go_wp2_with fail
          refine (htake_any w.heap.size _ p mt mp At2 row2 v2 18446744073709551615 HH2.out.1 (by have := HL2.out; omega) HE2.out.size).mono ?_
          rintro e w6 h6
          rcases h6 with ⟨h6, -⟩ | ⟨x, r, hr, -, he, row3, v3, P3, H3, b3, t3⟩
          · exfalso
            rcases h6 with h | ⟨x, r, hr, hlt⟩
            · have := HL2.out; rw [h] at this; simp at this; omega
            · have hmem : x ∈ row2 := by rw [hr]; simp
              have hsm : (fa X x).isSome = true := by rw [← HH2.out.2 x hmem, HH2.out.1.has x]; simpa using hmem
              obtain ⟨a, ha⟩ := fa_val X x hsm
              have : tim At2 x = (a.toNat : Int) := by unfold tim; rw [HH2.out.2 x hmem, ha]; rfl
              rw [this] at hlt
              have := a.toNat_lt
              have h9 : ((18446744073709551615 : UInt64).toNat : Int) = 18446744073709551615 := by rfl
              rw [h9] at hlt
              omega
          · have hmem : x ∈ row2 := by rw [hr]; simp
            have hsm : (fa X x).isSome = true := by rw [← HH2.out.2 x hmem, HH2.out.1.has x]; simpa using hmem
            obtain ⟨a, ha⟩ := fa_val X x hsm
            have htm : tim At2 x = (a.toNat : Int) := by unfold tim; rw [HH2.out.2 x hmem, ha]; rfl
            rw [htm] at he
            subst he
            have HFA := hid ha
            have hkx : keyI (fa X) x = (a.toNat : Int) * 18446744073709551616 + (x.toNat : Int) := by unfold keyI tim; rw [ha]; rfl
            have hks : ∀ y ∈ row2, keyI At2 y = keyI (fa X) y := fun y hy => by unfold keyI tim; rw [HH2.out.2 y hy]
            have hnd := (List.nodup_cons.1 (P3.nodup_iff.2 HH2.out.1.tr.nd)).1
            have hnew : ∀ y ∈ row3, (a.toNat : Int) * 18446744073709551616 + (x.toNat : Int) < keyI (fa X) y := by
              intro y hy
              have hy2 : y ∈ row2 := P3.mem_iff.1 (by simp [hy])
              have h1 := HH2.out.1
              rw [hr] at h1
              have h2 := h1.least y (by rw [← hr]; exact hy2)
              rw [hks x hmem, hks y hy2, hkx] at h2
              rcases Int.lt_or_eq_of_le h2 with h3 | h3
              · exact h3
              · have : x = y := key_inj (At := fa X) (by rw [hkx]; exact h3)
                subst this
                exact absurd hy hnd
            have HNEW := hid hnew
            have hold : 0 < j → (lat.toNat : Int) * 18446744073709551616 + (lid.toNat : Int) < (a.toNat : Int) * 18446744073709551616 + (x.toNat : Int) := fun h0 => by
              have := HK2.out h0 x hmem
              rw [hkx] at this
              exact this
            have hL3 : row3.length + (j + 1) = m := by
              have h1 := P3.length_eq
              have h2 := HL2.out
              simp only [List.length_cons] at h1
              omega
            have HL3 := hid hL3
            have HH3 : Hid (HB w.heap.size w6 p mt mp (delF At2 x) row3 v3 ∧ ∀ y ∈ row3, delF At2 x y = fa X y) := hid ⟨H3, fun y hy => by
              unfold delF
              have hyx : y ≠ x := fun e => hnd (by rw [← e]; exact hy)
              rw [if_neg hyx]
              exact HH2.out.2 y (P3.mem_iff.1 (by simp [hy]))⟩
            have HBX3 : Hid (w6.heap[bx]? = some (actO 0 lid lat)) := hid ((t3.1.block bx (Array.getElem?_eq_some_iff.1 HB2.out).1 (HH2.out.1.nblk HB2.out)).trans HB2.out)
            have HE6 : Hid (Ext w w6) := hid (Below.trans HE2.out b3)
            obtain ⟨b0, b1, b2, -⟩ := lk3 HBX3.out
            have HOLD := hid hold
            clear hr hmem hsm ha htm hkx hks hnd hnew hold hL3 H3 P3 b3 t3 HH2 HB2 HK2 HE2 HL2
            have hxl := x.toNat_lt
            have hll := lid.toNat_lt
            have HXL := hid hxl
            have HLL := hid hll
            clear hxl hll
            by_cases hj0 : 0 < j
            · have hg : decide (0 < j) = true := by simpa using hj0
              have HO1 := hid (HOLD.out hj0)
              by_cases hal : a = lat
              · have e1 : ((a.toNat : Int) == (lat.toNat : Int)) = true := by simp [hal]
                have e0 : decide (a.toNat < lat.toNat) = false := by rw [hal]; simp
                have e2 : decide (x.toNat ≤ lid.toNat) = false := by
                  rw [decide_eq_false_iff_not]
                  have h1 := HO1.out
                  rw [hal] at h1
                  omega
                have HAL := hid hal
                clear hal
                go_wp2
                go_loopw [12, 75] (fun fv iv wr => ∃ (k2 : Nat) (bb : Bool), k2 ≤ X.length ∧ iv = .int .i64 k2 ∧ fv = .bool bb ∧ Hid (bb = (fa (X.take k2) x).isSome) ∧ Hid (Ext w6 wr)) (fun _ iv _ => X.length - (intOf iv).toNat)
                case atStart => exact ⟨0, false, by omega, rfl, rfl, hid rfl, hid (Ext.refl _)⟩
                case round =>
                  obtain ⟨wl, hwl⟩ : ∃ W, W = wr := ⟨_, rfl⟩
                  subst hwl
                  obtain ⟨k2, bb, hk2, rfl, rfl, HBB, HEL⟩ := hrel
                  by_cases hlt2 : k2 < X.length
                  · obtain ⟨a1, rfl⟩ := HNN.out (by omega)
                    have c0 := cell_first ((HE6.out.trans HEL.out).cell (HC.out a1 rfl k2 hlt2 0 _ rfl))
                    have c1 := cell_next ((HE6.out.trans HEL.out).cell (HC.out a1 rfl k2 hlt2 1 _ rfl)) (by decide)
                    have c2 := cell_next ((HE6.out.trans HEL.out).cell (HC.out a1 rfl k2 hlt2 2 _ rfl)) (by decide)
                    have HTK := hid (fa_take hlt2 x)
                    have HHERE := hid (fun hn e => fa_here (x := x) hlt2 hn e)
                    obtain ⟨d, hd⟩ : ∃ d, X[k2].1 = d := ⟨_, rfl⟩
                    obtain ⟨y, hy⟩ : ∃ y, X[k2].2.1 = y := ⟨_, rfl⟩
                    obtain ⟨c, hc⟩ : ∃ c, X[k2].2.2 = c := ⟨_, rfl⟩
                    rw [hd] at c0
                    rw [hy] at c1 HTK HHERE
                    rw [hc] at c2 HTK HHERE
                    clear hd hy hc
                    have hi3 : decide ((k2 : Int) < X.length) = true := by simp; omega
                    have HEM : Hid (Ext w6 (wl.alloc (actO d y c))) := hid (HEL.out.trans (Ext.alloc wl (actO d y c)))
                    by_cases hyx : y = x
                    · have hne : ((y.toNat : Int) == (x.toNat : Int)) = true := by simp [hyx]
                      cases bb with
                      | true =>
                        have HNX : Hid (true = (fa (X.take (k2 + 1)) x).isSome) := hid (by rw [HTK.out, ← HBB.out]; simp; exact HBB.out.symm)
                        clear hyx
                        go_wp2
                        go_roundw
                        case rel => exact ⟨k2 + 1, true, by omega, by go_num, rfl, HNX, HEM⟩
                        case measure => simp [intOf]; omega
                      | false =>
                        have HNX : Hid (true = (fa (X.take (k2 + 1)) x).isSome) := hid (by rw [HTK.out, ← HBB.out]; simp [hyx])
                        have hca : ((c.toNat : Int) != (a.toNat : Int)) = false := by
                          have h1 := HHERE.out HBB.out.symm hyx
                          rw [HFA.out] at h1
                          have h2 : (a.toNat : Int) = (c.toNat : Int) := by simpa using h1
                          simp [h2]
                        clear hyx
                        go_wp2
                        go_roundw
                        case rel => exact ⟨k2 + 1, true, by omega, by go_num, rfl, HNX, HEM⟩
                        case measure => simp [intOf]; omega
                    · have hne : ((y.toNat : Int) == (x.toNat : Int)) = false := by
                        simp; intro e; exact hyx (UInt64.toNat_inj.1 (by omega))
                      have HNX : Hid (bb = (fa (X.take (k2 + 1)) x).isSome) := hid (by
                        rw [HTK.out, HBB.out]
                        have hxy : ¬ x = y := fun e => hyx e.symm
                        cases hf : fa (X.take k2) x <;> simp [hxy])
                      clear hyx
                      go_wp2
                      go_roundw
                      case rel => exact ⟨k2 + 1, bb, by omega, by go_num, rfl, HNX, HEM⟩
                      case measure => simp [intOf]; omega
                  · obtain rfl : k2 = X.length := by omega
                    have hi3 : decide ((X.length : Int) < X.length) = false := by simp
                    have hbt : bb = true := by
                      rw [HBB.out, List.take_length, HFA.out]; rfl
                    subst hbt
                    have HBL := hid (HEL.out.obj HBX3.out)
                    obtain ⟨b0, b1, b2, g0, g1, g2⟩ := lk3 HBL.out
                    have HHL := hid (HH3.out.1.ext HEL.out)
                    have HEW : Hid (Ext w wl) := hid (HE6.out.trans HEL.out)
                    go_wp2
                    go_roundw
                    case rel =>
                      have f9 : Fr [bx] wl (((wl.setCell ⟨bx, 0, none⟩ (.int .i64 0)).setCell ⟨bx, 1, none⟩ (vU x)).setCell ⟨bx, 2, none⟩ (vU a)) := ((fr_setCell _ _ _ (by simp)).trans (fr_setCell _ _ _ (by simp))).trans (fr_setCell _ _ _ (by simp))
                      have hb9 : (((wl.setCell ⟨bx, 0, none⟩ (.int .i64 0)).setCell ⟨bx, 1, none⟩ (vU x)).setCell ⟨bx, 2, none⟩ (vU a)).heap[bx]? = some (actO 0 x a) := by
                        simpa using Go.Joins.block_setCell (i := 2) (Go.Joins.block_setCell (i := 1) (Go.Joins.block_setCell (i := 0) HBL.out (.int .i64 0)) (vU x)) (vU a)
                      exact ⟨j + 1, row3, v3, delF At2 x, x, a, by omega, by go_num, HL3, hid ⟨HHL.out.other HBL.out f9, HH3.out.2⟩, hid hb9, hid (fun _ => HNEW.out), hid (Below.trans HEW.out (f9.below (by simpa using HBX.out) HEW.out.size))⟩
                    case measure => simp [intOf]; omega
              · have e1 : ((a.toNat : Int) == (lat.toNat : Int)) = false := by
                  simp; intro e; exact hal (UInt64.toNat_inj.1 (by omega))
                have e0 : decide (a.toNat < lat.toNat) = false := by
                  rw [decide_eq_false_iff_not]
                  have h1 := HO1.out
                  have h2 := HXL.out
                  have h3 := HLL.out
                  omega
                clear hal
                go_wp2
                go_loopw [12, 75] (fun fv iv wr => ∃ (k2 : Nat) (bb : Bool), k2 ≤ X.length ∧ iv = .int .i64 k2 ∧ fv = .bool bb ∧ Hid (bb = (fa (X.take k2) x).isSome) ∧ Hid (Ext w6 wr)) (fun _ iv _ => X.length - (intOf iv).toNat)
                case atStart => exact ⟨0, false, by omega, rfl, rfl, hid rfl, hid (Ext.refl _)⟩
                case round =>
                  obtain ⟨wl, hwl⟩ : ∃ W, W = wr := ⟨_, rfl⟩
                  subst hwl
                  obtain ⟨k2, bb, hk2, rfl, rfl, HBB, HEL⟩ := hrel
                  by_cases hlt2 : k2 < X.length
                  · obtain ⟨a1, rfl⟩ := HNN.out (by omega)
                    have c0 := cell_first ((HE6.out.trans HEL.out).cell (HC.out a1 rfl k2 hlt2 0 _ rfl))
                    have c1 := cell_next ((HE6.out.trans HEL.out).cell (HC.out a1 rfl k2 hlt2 1 _ rfl)) (by decide)
                    have c2 := cell_next ((HE6.out.trans HEL.out).cell (HC.out a1 rfl k2 hlt2 2 _ rfl)) (by decide)
                    have HTK := hid (fa_take hlt2 x)
                    have HHERE := hid (fun hn e => fa_here (x := x) hlt2 hn e)
                    obtain ⟨d, hd⟩ : ∃ d, X[k2].1 = d := ⟨_, rfl⟩
                    obtain ⟨y, hy⟩ : ∃ y, X[k2].2.1 = y := ⟨_, rfl⟩
                    obtain ⟨c, hc⟩ : ∃ c, X[k2].2.2 = c := ⟨_, rfl⟩
                    rw [hd] at c0
                    rw [hy] at c1 HTK HHERE
                    rw [hc] at c2 HTK HHERE
                    clear hd hy hc
                    have hi3 : decide ((k2 : Int) < X.length) = true := by simp; omega
                    have HEM : Hid (Ext w6 (wl.alloc (actO d y c))) := hid (HEL.out.trans (Ext.alloc wl (actO d y c)))
                    by_cases hyx : y = x
                    · have hne : ((y.toNat : Int) == (x.toNat : Int)) = true := by simp [hyx]
                      cases bb with
                      | true =>
                        have HNX : Hid (true = (fa (X.take (k2 + 1)) x).isSome) := hid (by rw [HTK.out, ← HBB.out]; simp; exact HBB.out.symm)
                        clear hyx
                        go_wp2
                        go_roundw
                        case rel => exact ⟨k2 + 1, true, by omega, by go_num, rfl, HNX, HEM⟩
                        case measure => simp [intOf]; omega
                      | false =>
                        have HNX : Hid (true = (fa (X.take (k2 + 1)) x).isSome) := hid (by rw [HTK.out, ← HBB.out]; simp [hyx])
                        have hca : ((c.toNat : Int) != (a.toNat : Int)) = false := by
                          have h1 := HHERE.out HBB.out.symm hyx
                          rw [HFA.out] at h1
                          have h2 : (a.toNat : Int) = (c.toNat : Int) := by simpa using h1
                          simp [h2]
                        clear hyx
                        go_wp2
                        go_roundw
                        case rel => exact ⟨k2 + 1, true, by omega, by go_num, rfl, HNX, HEM⟩
                        case measure => simp [intOf]; omega
                    · have hne : ((y.toNat : Int) == (x.toNat : Int)) = false := by
                        simp; intro e; exact hyx (UInt64.toNat_inj.1 (by omega))
                      have HNX : Hid (bb = (fa (X.take (k2 + 1)) x).isSome) := hid (by
                        rw [HTK.out, HBB.out]
                        have hxy : ¬ x = y := fun e => hyx e.symm
                        cases hf : fa (X.take k2) x <;> simp [hxy])
                      clear hyx
                      go_wp2
                      go_roundw
                      case rel => exact ⟨k2 + 1, bb, by omega, by go_num, rfl, HNX, HEM⟩
                      case measure => simp [intOf]; omega
                  · obtain rfl : k2 = X.length := by omega
                    have hi3 : decide ((X.length : Int) < X.length) = false := by simp
                    have hbt : bb = true := by
                      rw [HBB.out, List.take_length, HFA.out]; rfl
                    subst hbt
                    have HBL := hid (HEL.out.obj HBX3.out)
                    obtain ⟨b0, b1, b2, g0, g1, g2⟩ := lk3 HBL.out
                    have HHL := hid (HH3.out.1.ext HEL.out)
                    have HEW : Hid (Ext w wl) := hid (HE6.out.trans HEL.out)
                    go_wp2
                    go_roundw
                    case rel =>
                      have f9 : Fr [bx] wl (((wl.setCell ⟨bx, 0, none⟩ (.int .i64 0)).setCell ⟨bx, 1, none⟩ (vU x)).setCell ⟨bx, 2, none⟩ (vU a)) := ((fr_setCell _ _ _ (by simp)).trans (fr_setCell _ _ _ (by simp))).trans (fr_setCell _ _ _ (by simp))
                      have hb9 : (((wl.setCell ⟨bx, 0, none⟩ (.int .i64 0)).setCell ⟨bx, 1, none⟩ (vU x)).setCell ⟨bx, 2, none⟩ (vU a)).heap[bx]? = some (actO 0 x a) := by
                        simpa using Go.Joins.block_setCell (i := 2) (Go.Joins.block_setCell (i := 1) (Go.Joins.block_setCell (i := 0) HBL.out (.int .i64 0)) (vU x)) (vU a)
                      exact ⟨j + 1, row3, v3, delF At2 x, x, a, by omega, by go_num, HL3, hid ⟨HHL.out.other HBL.out f9, HH3.out.2⟩, hid hb9, hid (fun _ => HNEW.out), hid (Below.trans HEW.out (f9.below (by simpa using HBX.out) HEW.out.size))⟩
                    case measure => simp [intOf]; omega
            · have hg : decide (0 < j) = false := by simpa using hj0
              go_wp2
              go_loopw [12, 75] (fun fv iv wr => ∃ (k2 : Nat) (bb : Bool), k2 ≤ X.length ∧ iv = .int .i64 k2 ∧ fv = .bool bb ∧ Hid (bb = (fa (X.take k2) x).isSome) ∧ Hid (Ext w6 wr)) (fun _ iv _ => X.length - (intOf iv).toNat)
              case atStart => exact ⟨0, false, by omega, rfl, rfl, hid rfl, hid (Ext.refl _)⟩
              case round =>
                obtain ⟨wl, hwl⟩ : ∃ W, W = wr := ⟨_, rfl⟩
                subst hwl
                obtain ⟨k2, bb, hk2, rfl, rfl, HBB, HEL⟩ := hrel
                by_cases hlt2 : k2 < X.length
                · obtain ⟨a1, rfl⟩ := HNN.out (by omega)
                  have c0 := cell_first ((HE6.out.trans HEL.out).cell (HC.out a1 rfl k2 hlt2 0 _ rfl))
                  have c1 := cell_next ((HE6.out.trans HEL.out).cell (HC.out a1 rfl k2 hlt2 1 _ rfl)) (by decide)
                  have c2 := cell_next ((HE6.out.trans HEL.out).cell (HC.out a1 rfl k2 hlt2 2 _ rfl)) (by decide)
                  have HTK := hid (fa_take hlt2 x)
                  have HHERE := hid (fun hn e => fa_here (x := x) hlt2 hn e)
                  obtain ⟨d, hd⟩ : ∃ d, X[k2].1 = d := ⟨_, rfl⟩
                  obtain ⟨y, hy⟩ : ∃ y, X[k2].2.1 = y := ⟨_, rfl⟩
                  obtain ⟨c, hc⟩ : ∃ c, X[k2].2.2 = c := ⟨_, rfl⟩
                  rw [hd] at c0
                  rw [hy] at c1 HTK HHERE
                  rw [hc] at c2 HTK HHERE
                  clear hd hy hc
                  have hi3 : decide ((k2 : Int) < X.length) = true := by simp; omega
                  have HEM : Hid (Ext w6 (wl.alloc (actO d y c))) := hid (HEL.out.trans (Ext.alloc wl (actO d y c)))
                  by_cases hyx : y = x
                  · have hne : ((y.toNat : Int) == (x.toNat : Int)) = true := by simp [hyx]
                    cases bb with
                    | true =>
                      have HNX : Hid (true = (fa (X.take (k2 + 1)) x).isSome) := hid (by rw [HTK.out, ← HBB.out]; simp; exact HBB.out.symm)
                      clear hyx
                      go_wp2
                      go_roundw
                      case rel => exact ⟨k2 + 1, true, by omega, by go_num, rfl, HNX, HEM⟩
                      case measure => simp [intOf]; omega
                    | false =>
                      have HNX : Hid (true = (fa (X.take (k2 + 1)) x).isSome) := hid (by rw [HTK.out, ← HBB.out]; simp [hyx])
                      have hca : ((c.toNat : Int) != (a.toNat : Int)) = false := by
                        have h1 := HHERE.out HBB.out.symm hyx
                        rw [HFA.out] at h1
                        have h2 : (a.toNat : Int) = (c.toNat : Int) := by simpa using h1
                        simp [h2]
                      clear hyx
                      go_wp2
                      go_roundw
                      case rel => exact ⟨k2 + 1, true, by omega, by go_num, rfl, HNX, HEM⟩
                      case measure => simp [intOf]; omega
                  · have hne : ((y.toNat : Int) == (x.toNat : Int)) = false := by
                      simp; intro e; exact hyx (UInt64.toNat_inj.1 (by omega))
                    have HNX : Hid (bb = (fa (X.take (k2 + 1)) x).isSome) := hid (by
                      rw [HTK.out, HBB.out]
                      have hxy : ¬ x = y := fun e => hyx e.symm
                      cases hf : fa (X.take k2) x <;> simp [hxy])
                    clear hyx
                    go_wp2
                    go_roundw
                    case rel => exact ⟨k2 + 1, bb, by omega, by go_num, rfl, HNX, HEM⟩
                    case measure => simp [intOf]; omega
                · obtain rfl : k2 = X.length := by omega
                  have hi3 : decide ((X.length : Int) < X.length) = false := by simp
                  have hbt : bb = true := by
                    rw [HBB.out, List.take_length, HFA.out]; rfl
                  subst hbt
                  have HBL := hid (HEL.out.obj HBX3.out)
                  obtain ⟨b0, b1, b2, g0, g1, g2⟩ := lk3 HBL.out
                  have HHL := hid (HH3.out.1.ext HEL.out)
                  have HEW : Hid (Ext w wl) := hid (HE6.out.trans HEL.out)
                  go_wp2
                  go_roundw
                  case rel =>
                    have f9 : Fr [bx] wl (((wl.setCell ⟨bx, 0, none⟩ (.int .i64 0)).setCell ⟨bx, 1, none⟩ (vU x)).setCell ⟨bx, 2, none⟩ (vU a)) := ((fr_setCell _ _ _ (by simp)).trans (fr_setCell _ _ _ (by simp))).trans (fr_setCell _ _ _ (by simp))
                    have hb9 : (((wl.setCell ⟨bx, 0, none⟩ (.int .i64 0)).setCell ⟨bx, 1, none⟩ (vU x)).setCell ⟨bx, 2, none⟩ (vU a)).heap[bx]? = some (actO 0 x a) := by
                      simpa using Go.Joins.block_setCell (i := 2) (Go.Joins.block_setCell (i := 1) (Go.Joins.block_setCell (i := 0) HBL.out (.int .i64 0)) (vU x)) (vU a)
                    exact ⟨j + 1, row3, v3, delF At2 x, x, a, by omega, by go_num, HL3, hid ⟨HHL.out.other HBL.out f9, HH3.out.2⟩, hid hb9, hid (fun _ => HNEW.out), hid (Below.trans HEW.out (f9.below (by simpa using HBX.out) HEW.out.size))⟩
                  case measure => simp [intOf]; omega
        · obtain rfl : j = m := by omega
          have hi2 : decide ((j : Int) < j) = false := by simp
          have h0 : row2 = [] := List.eq_nil_of_length_eq_zero (by have := HL2.out; omega)
          subst h0
          go_wp2_with fail
          refine (hfirst_any w.heap.size _ p mt mp At2 [] v2 HH2.out.1).mono ?_
          rintro e w6 ⟨rfl, E6⟩
          rw [show fst At2 [] = .tuple #[.int .u64 0, .int .u64 0, .bool false] from rfl]
          have HH6 := hid (HH2.out.1.ext E6)
          have HE6 : Hid (Ext w w6) := hid (HE2.out.trans E6)
          clear E6 HH2 HE2
          go_wp2_with fail
          refine (hlen_any w.heap.size _ p mt mp _ _ _ HH6.out).mono ?_
          rintro e w7 ⟨rfl, rfl⟩
          rw [show ((([] : List UInt64).length : Nat) : Int) = 0 from rfl]
          go_wp2
          go_ret
          exact ⟨rfl, HE6.out⟩
end Go.Proofs.Ytkagacopgjcdnaa
