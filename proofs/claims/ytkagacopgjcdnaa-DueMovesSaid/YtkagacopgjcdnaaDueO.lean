/- DueMoves: the law. -/
import Derived.Test.YtkagacopgjcdnaaDueL
set_option linter.unusedSimpArgs false
set_option linter.unusedVariables false
namespace Go.Proofs.Ytkagacopgjcdnaa
open Go Go.RowKit Go.Tum Go.ChangeMaps Go.Tum.Hp

theorem HB.mono {B B2 : Nat} {w : World} {p mt mp : Nat} {At : UInt64 → Option Int} {row : List UInt64} {v : Value} (h : HB B w p mt mp At row v) (hb : B2 ≤ B) : HB B2 w p mt mp At row v :=
  ⟨⟨h.tr.hd, h.tr.ti, h.tr.pl, h.tr.ow.mono hb, h.tr.nd, h.tr.ne⟩, h.has, h.hp, Nat.le_trans hb h.bp, Nat.le_trans hb h.bt, Nat.le_trans hb h.bm⟩
def Vals (A : UInt64 → Option Int) : Prop := ∀ x i, A x = some i → ∃ a : UInt64, i = (a.toNat : Int)
theorem Vals.set {A : UInt64 → Option Int} (h : Vals A) (x a : UInt64) : Vals (setF A x (a.toNat : Int)) := by
  intro y i hy
  unfold setF at hy
  split at hy
  · exact ⟨a, by simpa using hy.symm⟩
  · exact h y i hy
theorem Vals.del {A : UInt64 → Option Int} (h : Vals A) (x : UInt64) : Vals (delF A x) := by
  intro y i hy
  unfold delF at hy
  split at hy
  · cases hy
  · exact h y i hy
/-- An act on the first of two heaps. -/
theorem Two.left {B : Nat} {w w' : World} {p mt mp p2 mt2 mp2 : Nat} {A : UInt64 → Option Int} {row row2 : List UInt64} {v v2 v' : Value} (h : HB B w p mt mp A row v) (k : HB B w p2 mt2 mp2 A row2 v2) (d : ∀ x ∈ Hb p mt mp v, x ∉ Hb p2 mt2 mp2 v2) (t : Turn w w' p mt mp v v') :
    HB B w' p2 mt2 mp2 A row2 v2 ∧ ∀ x ∈ Hb p mt mp v', x ∉ Hb p2 mt2 mp2 v2 :=
  ⟨k.keep t.1 (disj_sym d), disj_sym (disj_new (disj_sym d) k.lt t.2)⟩

set_option maxRecDepth 100000 in
set_option maxHeartbeats 1000000 in
theorem dueMoves_law (v : Value) (X : List Act3) (id at0 : UInt64) (w : World) (hb : RowsOf w 3 v a3cells X) :
    Calls Try.prog 5 #[v, vU id, vU at0] w fun e w' => e = .returned (.bool true) ∧ Ext w w' := by
  obtain ⟨ao, cap, rfl, hle, hm, hnn, hcell⟩ := hb.open
  have HC := hid hcell
  have HNN := hid hnn
  clear hb hcell hnn
  go_enter Try.func5, Try.ntmps5
  go_wp2_with fail
  refine (awake_any _).mono ?_
  rintro e w1 ⟨rfl, hw⟩
  have HE1 := hid hw
  clear hw
  by_cases h1 : 200 < X.length
  · have hd : decide ((200 : Int) < X.length) = true := by simp; omega
    go_wp2
    go_ret
    exact ⟨rfl, HE1.out⟩
  have hd : decide ((200 : Int) < X.length) = false := by simp; omega
  go_wp2_with fail
  clear hd
  refine (hnew_any _ w.heap.size HE1.out.size).mono ?_
  rintro e w2 ⟨p, mt, mp, rfl, H2, E2⟩
  have HE2 : Hid (Ext w w2) := hid (HE1.out.trans E2)
  have HH2 := hid H2
  clear H2 E2 HE1
  go_wp2_with fail
  refine (hnew_any _ w2.heap.size (Nat.le_refl _)).mono ?_
  rintro e w3 ⟨p2, mt2, mp2, rfl, H3, E3⟩
  have HE3 : Hid (Ext w w3) := hid (HE2.out.trans E3)
  have HT3 : Hid (Two w.heap.size w3 p mt mp p2 mt2 mp2 (fun _ => none) [] [] (.slice none 0 0) (.slice none 0 0)) := hid ⟨HH2.out.ext E3, H3.mono HE2.out.size, fun x hx hx2 => by
    have h1 := HH2.out.lt x hx
    have h2 := H3.bp
    have h3 := H3.bt
    have h4 := H3.bm
    simp [Hb, Value.ownBlock] at hx2
    rcases hx2 with rfl | rfl | rfl <;> omega⟩
  clear H3 E3 HE2 HH2
  go_wp2
  go_loopw [28] (fun iv wr => ∃ (k : Nat) (A : UInt64 → Option Int) (row row2 : List UInt64) (v1 v2 : Value), k ≤ X.length ∧ iv = .int .i64 k ∧ Hid (row.length ≤ k) ∧ Hid (Two w.heap.size wr p mt mp p2 mt2 mp2 A row row2 v1 v2) ∧ Hid (Vals A) ∧ Hid (Ext w wr)) (fun iv _ => X.length - (intOf iv).toNat)
  case atStart => exact ⟨0, fun _ => none, [], [], _, _, by omega, rfl, hid (Nat.le_refl _), HT3, hid (fun x i h => by cases h), HE3⟩
  case round =>
    obtain ⟨k, A, row, row2, v1, v2, hk, rfl, HN, HT, HV, HE⟩ := hrel
    by_cases hlt : k < X.length
    · obtain ⟨a0, rfl⟩ := HNN.out (by omega)
      have c0 := cell_first (HE.out.cell (HC.out a0 rfl k hlt 0 _ rfl))
      have c1 := cell_next (HE.out.cell (HC.out a0 rfl k hlt 1 _ rfl)) (by decide)
      have c2 := cell_next (HE.out.cell (HC.out a0 rfl k hlt 2 _ rfl)) (by decide)
      obtain ⟨d, hd⟩ : ∃ d, X[k].1 = d := ⟨_, rfl⟩
      obtain ⟨x, hx⟩ : ∃ x, X[k].2.1 = x := ⟨_, rfl⟩
      obtain ⟨a, ha⟩ : ∃ a, X[k].2.2 = a := ⟨_, rfl⟩
      rw [hd] at c0
      rw [hx] at c1
      rw [ha] at c2
      clear hd hx ha
      have hi1 : decide ((k : Int) < X.length) = true := by simp; omega
      have HA4 := hid (HT.out.a.ext (Ext.alloc wr (actO d x a)))
      have HB4 := hid (HT.out.b.ext (Ext.alloc wr (actO d x a)))
      have HE4 : Hid (Ext w (wr.alloc (actO d x a))) := hid (HE.out.trans (Ext.alloc wr (actO d x a)))
      have HX4 := hid (heap_alloc_new wr (actO d x a))
      have HD4 := hid HT.out.d
      have hl2 : row2.length = row.length := (same_perm HT.out.a HT.out.b).length_eq.symm
      have HL2 := hid hl2
      clear HT HE hl2
      go_wp2_with fail
      refine (hput_any w.heap.size _ p mt mp A row v1 x a HA4.out (by have := HN.out; omega) HE4.out.size).mono ?_
      rintro e w5 ⟨q1, q2⟩
      clear c0 c1 c2
      by_cases hin : x ∈ row
      · obtain ⟨rfl, rfl⟩ := q1 hin
        have hin2 : x ∈ row2 := (same_perm HA4.out HB4.out).mem_iff.1 hin
        obtain ⟨b0, b1, b2, -⟩ := lk3 HX4.out
        clear q1 q2
        have HIN := hid hin2
        clear hin hin2
        go_wp2_with fail
        refine (hput_any w.heap.size _ p2 mt2 mp2 A row2 v2 x a HB4.out (by have := HN.out; have := HL2.out; omega) HE4.out.size).mono ?_
        rintro e w6 ⟨q1, -⟩
        obtain ⟨rfl, rfl⟩ := q1 HIN.out
        go_wp2
        go_roundw
        case rel => exact ⟨k + 1, A, row, row2, v1, v2, by omega, by go_num, hid (Nat.le_succ_of_le HN.out), hid ⟨HA4.out, HB4.out, HD4.out⟩, HV, HE4⟩
        case measure => simp [intOf]; omega
      · obtain ⟨rfl, row', v', hpm, H5, b5, t5⟩ := q2 hin
        have hin2 : x ∉ row2 := fun h => hin ((same_perm HA4.out HB4.out).mem_iff.2 h)
        have hle5 := Two.left HA4.out HB4.out HD4.out t5
        have HX5 := hid ((t5.1.block wr.heap.size (by simp) (HA4.out.nblk HX4.out)).trans HX4.out)
        have HA5 := hid H5
        have HB5 := hid hle5.1
        have HD5 := hid hle5.2
        have HE5 : Hid (Ext w w5) := hid (Below.trans HE4.out b5)
        have HN5 : Hid (row'.length ≤ k + 1) := hid (by rw [hpm.length_eq]; simp; exact HN.out)
        have HIN := hid hin2
        obtain ⟨b0, b1, b2, -⟩ := lk3 HX5.out
        clear q1 q2 hin hin2 H5 b5 t5 hle5 hpm HA4 HB4 HD4 HE4 HX4
        go_wp2_with fail
        refine (hput_any w.heap.size _ p2 mt2 mp2 A row2 v2 x a HB5.out (by have := HN.out; have := HL2.out; omega) HE5.out.size).mono ?_
        rintro e w6 ⟨-, q2⟩
        obtain ⟨rfl, row2', v2', -, H6, b6, t6⟩ := q2 HIN.out
        have HA6 := hid (HA5.out.keep t6.1 HD5.out)
        have HD6 := hid (disj_new HD5.out HA5.out.lt t6.2)
        have HB6 := hid H6
        have HE6 : Hid (Ext w w6) := hid (Below.trans HE5.out b6)
        have HV6 := hid (HV.out.set x a)
        clear q2 H6 b6 t6
        go_wp2
        go_roundw
        case rel => exact ⟨k + 1, _, row', row2', v', v2', by omega, by go_num, HN5, hid ⟨HA6.out, HB6.out, HD6.out⟩, HV6, HE6⟩
        case measure => simp [intOf]; omega
    · obtain rfl : k = X.length := by omega
      have hi1 : decide ((X.length : Int) < X.length) = false := by simp
      go_wp2_with fail
      refine (hmove_any w.heap.size _ p mt mp A row v1 id at0 HT.out.a (by have := HN.out; omega) HE.out.size).mono ?_
      rintro e w5 ⟨q1, q2⟩
      by_cases hin : id ∈ row
      · obtain ⟨rfl, row', v', hpm, H5, b5, t5⟩ := q2 hin
        have hin2 : id ∈ row2 := (same_perm HT.out.a HT.out.b).mem_iff.1 hin
        have hlf := Two.left HT.out.a HT.out.b HT.out.d t5
        have HA5 := hid H5
        have HB5 := hid hlf.1
        have HD5 := hid hlf.2
        have HE5 : Hid (Ext w w5) := hid (Below.trans HE.out b5)
        have HNZ : Hid (row'.length ≤ X.length) := hid (by rw [hpm.length_eq]; exact HN.out)
        have HL2 : Hid (row2.length ≤ X.length) := hid (by rw [← (same_perm HT.out.a HT.out.b).length_eq]; exact HN.out)
        have HIN := hid hin2
        clear q1 q2 hin hin2 H5 b5 t5 hlf hpm HT HE HN
        go_wp2_with fail
        refine (hdrop_any w.heap.size _ p2 mt2 mp2 A row2 v2 id HB5.out (by have := HL2.out; omega) HE5.out.size).mono ?_
        rintro e w6 ⟨-, q2⟩
        obtain ⟨rfl, row3, v3, P6, H6, b6, t6⟩ := q2 HIN.out
        have HA6 := hid (HA5.out.keep t6.1 HD5.out)
        have HD6 := hid (disj_new HD5.out HA5.out.lt t6.2)
        have HB6 := hid H6
        have HE6 : Hid (Ext w w6) := hid (Below.trans HE5.out b6)
        have hni : id ∉ row3 := by
          have := H6.has id
          unfold delF at this
          rw [if_pos rfl] at this
          simpa using this
        have HL3 : Hid (row3.length ≤ X.length) := hid (by have h1 := P6.length_eq; have h2 := HL2.out; simp only [List.length_cons] at h1; omega)
        have HNI := hid hni
        clear q2 H6 b6 t6 P6 hni HA5 HB5 HD5 HE5 HIN
        go_wp2_with fail
        refine (hput_any w.heap.size _ p2 mt2 mp2 _ row3 v3 id at0 HB6.out (by have := HL3.out; omega) HE6.out.size).mono ?_
        rintro e w7 ⟨-, q2⟩
        obtain ⟨rfl, row4, v4, -, H7, b7, t7⟩ := q2 HNI.out
        rw [move_as] at H7
        have HA7 := hid (HA6.out.keep t7.1 HD6.out)
        have HD7 := hid (disj_new HD6.out HA6.out.lt t7.2)
        have HTZ : Hid (Two w.heap.size w7 p mt mp p2 mt2 mp2 (setF A id (at0.toNat : Int)) row' row4 v' v4) := hid ⟨HA7.out, H7, HD7.out⟩
        have HEZ : Hid (Ext w w7) := hid (Below.trans HE6.out b7)
        have HVZ := hid (HV.out.set id at0)
        clear q2 H7 b7 t7 HA6 HB6 HD6 HE6 HA7 HD7 HV HNI
        go_wp2_with fail
        refine (hlen_any w.heap.size _ p mt mp _ _ _ HTZ.out.a).mono ?_
        rintro e w8 ⟨rfl, rfl⟩
        go_wp2_with fail
        refine (hlen_any w.heap.size _ p2 mt2 mp2 _ _ _ HTZ.out.b).mono ?_
        rintro e w8 ⟨rfl, rfl⟩
        rw [show row4.length = row'.length from (same_perm HTZ.out.a HTZ.out.b).length_eq.symm]
        have hne : ((row'.length : Int) != (row'.length : Int)) = false := by simp
        go_wp2
        go_loopw [74] (fun iv wr => ∃ (k : Nat) (A : UInt64 → Option Int) (r1 r2 : List UInt64) (v1 v2 : Value), k ≤ X.length ∧ iv = .int .i64 k ∧ Hid (r1.length ≤ X.length - k) ∧ Hid (Two w.heap.size wr p mt mp p2 mt2 mp2 A r1 r2 v1 v2) ∧ Hid (Vals A) ∧ Hid (Ext w wr)) (fun iv _ => X.length - (intOf iv).toNat)
        case atStart => exact ⟨0, _, _, _, _, _, by omega, rfl, hid (by have := HNZ.out; omega), HTZ, HVZ, HEZ⟩
        case round =>
          obtain ⟨wl, hwl⟩ : ∃ W, W = wr := ⟨_, rfl⟩
          subst hwl
          clear HTZ HVZ HEZ
          obtain ⟨k2, A3, r1, r2, u1, u2, hk2, rfl, HN2, HT2, HV2, HE2⟩ := hrel
          have HM := hid (same_perm HT2.out.a HT2.out.b)
          have hmx : ∀ x, tim A3 x ≤ ((18446744073709551615 : UInt64).toNat : Int) := fun x => by
            have h9 : ((18446744073709551615 : UInt64).toNat : Int) = 18446744073709551615 := by rfl
            rw [h9]
            unfold tim
            cases hf : A3 x with
            | none => simp
            | some i =>
              obtain ⟨q, rfl⟩ := HV2.out x i hf
              have := q.toNat_lt
              simp
              omega
          have HMX := hid hmx
          clear hmx
          by_cases hlt2 : k2 < X.length
          · have hi2 : decide ((k2 : Int) < X.length) = true := by simp; omega
            go_wp2_with fail
            refine (htake_any w.heap.size _ p mt mp A3 r1 u1 18446744073709551615 HT2.out.a (by have := HN2.out; omega) HE2.out.size).mono ?_
            rintro e w8 h8
            rcases h8 with ⟨h8, rfl, E8⟩ | ⟨x, r, hr, -, he, r1', u1', P8, H8, b8, t8⟩
            · have hnil : r1 = [] := by
                rcases h8 with h | ⟨x, r, hr, hl⟩
                · exact h
                · have := HMX.out x; omega
              subst hnil
              have hnil2 : r2 = [] := HM.out.symm.eq_nil
              subst hnil2
              have HA8 := hid (HT2.out.a.ext E8)
              have HB8 := hid (HT2.out.b.ext E8)
              have HE8 : Hid (Ext w w8) := hid (HE2.out.trans E8)
              have HD8 := hid HT2.out.d
              clear h8 E8 HT2 HE2
              go_wp2_with fail
              refine (htake_any w.heap.size _ p2 mt2 mp2 A3 [] u2 18446744073709551615 HB8.out (by simp) HE8.out.size).mono ?_
              rintro e w9 h9
              rcases h9 with ⟨-, rfl, E9⟩ | ⟨x, r, hr, -⟩
              · have HA9 := hid (HA8.out.ext E9)
                have HB9 := hid (HB8.out.ext E9)
                have HE9 : Hid (Ext w w9) := hid (HE8.out.trans E9)
                clear E9
                go_wp2
                go_roundw
                case rel => exact ⟨k2 + 1, A3, [], [], u1, u2, by omega, by go_num, hid (by simp), hid ⟨HA9.out, HB9.out, HD8.out⟩, HV2, HE9⟩
                case measure => simp [intOf]; omega
              · cases hr
            · subst hr
              obtain ⟨t, ht⟩ : ∃ t, tim A3 x = t := ⟨_, rfl⟩
              have HTT := hid ht
              rw [ht] at he
              subst he
              have hlf := Two.left HT2.out.a HT2.out.b HT2.out.d t8
              have HA8 := hid H8
              have HB8 := hid hlf.1
              have HD8 := hid hlf.2
              have HE8 : Hid (Ext w w8) := hid (Below.trans HE2.out b8)
              have HFS := hid (fun (y : UInt64) (q : List UInt64) (u : Value) (h : HB w.heap.size w8 p2 mt2 mp2 A3 (y :: q) u) => same_first HT2.out.a h)
              have HNN2 : Hid (r1'.length ≤ X.length - (k2 + 1)) := hid (by have h1 := P8.length_eq; have h2 := HN2.out; simp only [List.length_cons] at h1 h2; omega)
              have HLL : Hid (r2.length ≤ X.length) := hid (by have h1 := HM.out.length_eq; have h2 := HN2.out; omega)
              clear ht H8 b8 t8 hlf P8
              go_wp2_with fail
              refine (htake_any w.heap.size _ p2 mt2 mp2 A3 r2 u2 18446744073709551615 HB8.out (by have := HLL.out; omega) HE8.out.size).mono ?_
              rintro e w9 h9
              rcases h9 with ⟨h9, -⟩ | ⟨y, q, hq, -, he, r2', u2', P9, H9, b9, t9⟩
              · exfalso
                rcases h9 with h | ⟨y, q, hq, hl⟩
                · have := HM.out.length_eq; rw [h] at this; simp at this
                · have := HMX.out y; omega
              · subst hq
                obtain rfl : x = y := HFS.out y q u2 HB8.out
                rw [HTT.out] at he
                subst he
                have HA9 := hid (HA8.out.keep t9.1 HD8.out)
                have HD9 := hid (disj_new HD8.out HA8.out.lt t9.2)
                have HB9 := hid H9
                have HE9 : Hid (Ext w w9) := hid (Below.trans HE8.out b9)
                have HV9 := hid (HV2.out.del x)
                clear H9 b9 t9 P9
                have n1 : ((x.toNat : Int) != (x.toNat : Int)) = false := by simp
                have n2 : (t != t) = false := by simp
                go_wp2
                go_roundw
                case rel => exact ⟨k2 + 1, _, r1', r2', u1', u2', by omega, by go_num, HNN2, hid ⟨HA9.out, HB9.out, HD9.out⟩, HV9, HE9⟩
                case measure => simp [intOf]; omega
          · obtain rfl : k2 = X.length := by omega
            have hi2 : decide ((X.length : Int) < X.length) = false := by simp
            have h0 : r1 = [] := List.eq_nil_of_length_eq_zero (by have := HN2.out; omega)
            subst h0
            go_wp2_with fail
            refine (hlen_any w.heap.size _ p mt mp _ _ _ HT2.out.a).mono ?_
            rintro e w9 ⟨rfl, rfl⟩
            rw [show ((([] : List UInt64).length : Nat) : Int) = 0 from rfl]
            go_wp2
            go_ret
            exact ⟨rfl, HE2.out⟩
      · obtain ⟨rfl, rfl⟩ := q1 hin
        have hin2 : id ∉ row2 := fun h => hin ((same_perm HT.out.a HT.out.b).mem_iff.2 h)
        have HL2 : Hid (row2.length ≤ X.length) := hid (by rw [← (same_perm HT.out.a HT.out.b).length_eq]; exact HN.out)
        have HIN := hid hin2
        have HTZ := HT
        have HEZ := HE
        have HVZ := HV
        have HNZ := HN
        clear q1 q2 hin hin2
        go_wp2_with fail
        refine (hdrop_any w.heap.size _ p2 mt2 mp2 A row2 v2 id HTZ.out.b (by have := HL2.out; omega) HEZ.out.size).mono ?_
        rintro e w6 ⟨q1, -⟩
        obtain ⟨rfl, rfl⟩ := q1 HIN.out
        clear q1
        go_wp2_with fail
        refine (hlen_any w.heap.size _ p mt mp _ _ _ HTZ.out.a).mono ?_
        rintro e w8 ⟨rfl, rfl⟩
        go_wp2_with fail
        refine (hlen_any w.heap.size _ p2 mt2 mp2 _ _ _ HTZ.out.b).mono ?_
        rintro e w8 ⟨rfl, rfl⟩
        rw [show row2.length = row.length from (same_perm HTZ.out.a HTZ.out.b).length_eq.symm]
        have hne : ((row.length : Int) != (row.length : Int)) = false := by simp
        go_wp2
        go_loopw [74] (fun iv wr => ∃ (k : Nat) (A : UInt64 → Option Int) (r1 r2 : List UInt64) (v1 v2 : Value), k ≤ X.length ∧ iv = .int .i64 k ∧ Hid (r1.length ≤ X.length - k) ∧ Hid (Two w.heap.size wr p mt mp p2 mt2 mp2 A r1 r2 v1 v2) ∧ Hid (Vals A) ∧ Hid (Ext w wr)) (fun iv _ => X.length - (intOf iv).toNat)
        case atStart => exact ⟨0, _, _, _, _, _, by omega, rfl, hid (by have := HNZ.out; omega), HTZ, HVZ, HEZ⟩
        case round =>
          obtain ⟨wl, hwl⟩ : ∃ W, W = wr := ⟨_, rfl⟩
          subst hwl
          clear HTZ HVZ HEZ
          obtain ⟨k2, A3, r1, r2, u1, u2, hk2, rfl, HN2, HT2, HV2, HE2⟩ := hrel
          have HM := hid (same_perm HT2.out.a HT2.out.b)
          have hmx : ∀ x, tim A3 x ≤ ((18446744073709551615 : UInt64).toNat : Int) := fun x => by
            have h9 : ((18446744073709551615 : UInt64).toNat : Int) = 18446744073709551615 := by rfl
            rw [h9]
            unfold tim
            cases hf : A3 x with
            | none => simp
            | some i =>
              obtain ⟨q, rfl⟩ := HV2.out x i hf
              have := q.toNat_lt
              simp
              omega
          have HMX := hid hmx
          clear hmx
          by_cases hlt2 : k2 < X.length
          · have hi2 : decide ((k2 : Int) < X.length) = true := by simp; omega
            go_wp2_with fail
            refine (htake_any w.heap.size _ p mt mp A3 r1 u1 18446744073709551615 HT2.out.a (by have := HN2.out; omega) HE2.out.size).mono ?_
            rintro e w8 h8
            rcases h8 with ⟨h8, rfl, E8⟩ | ⟨x, r, hr, -, he, r1', u1', P8, H8, b8, t8⟩
            · have hnil : r1 = [] := by
                rcases h8 with h | ⟨x, r, hr, hl⟩
                · exact h
                · have := HMX.out x; omega
              subst hnil
              have hnil2 : r2 = [] := HM.out.symm.eq_nil
              subst hnil2
              have HA8 := hid (HT2.out.a.ext E8)
              have HB8 := hid (HT2.out.b.ext E8)
              have HE8 : Hid (Ext w w8) := hid (HE2.out.trans E8)
              have HD8 := hid HT2.out.d
              clear h8 E8 HT2 HE2
              go_wp2_with fail
              refine (htake_any w.heap.size _ p2 mt2 mp2 A3 [] u2 18446744073709551615 HB8.out (by simp) HE8.out.size).mono ?_
              rintro e w9 h9
              rcases h9 with ⟨-, rfl, E9⟩ | ⟨x, r, hr, -⟩
              · have HA9 := hid (HA8.out.ext E9)
                have HB9 := hid (HB8.out.ext E9)
                have HE9 : Hid (Ext w w9) := hid (HE8.out.trans E9)
                clear E9
                go_wp2
                go_roundw
                case rel => exact ⟨k2 + 1, A3, [], [], u1, u2, by omega, by go_num, hid (by simp), hid ⟨HA9.out, HB9.out, HD8.out⟩, HV2, HE9⟩
                case measure => simp [intOf]; omega
              · cases hr
            · subst hr
              obtain ⟨t, ht⟩ : ∃ t, tim A3 x = t := ⟨_, rfl⟩
              have HTT := hid ht
              rw [ht] at he
              subst he
              have hlf := Two.left HT2.out.a HT2.out.b HT2.out.d t8
              have HA8 := hid H8
              have HB8 := hid hlf.1
              have HD8 := hid hlf.2
              have HE8 : Hid (Ext w w8) := hid (Below.trans HE2.out b8)
              have HFS := hid (fun (y : UInt64) (q : List UInt64) (u : Value) (h : HB w.heap.size w8 p2 mt2 mp2 A3 (y :: q) u) => same_first HT2.out.a h)
              have HNN2 : Hid (r1'.length ≤ X.length - (k2 + 1)) := hid (by have h1 := P8.length_eq; have h2 := HN2.out; simp only [List.length_cons] at h1 h2; omega)
              have HLL : Hid (r2.length ≤ X.length) := hid (by have h1 := HM.out.length_eq; have h2 := HN2.out; omega)
              clear ht H8 b8 t8 hlf P8
              go_wp2_with fail
              refine (htake_any w.heap.size _ p2 mt2 mp2 A3 r2 u2 18446744073709551615 HB8.out (by have := HLL.out; omega) HE8.out.size).mono ?_
              rintro e w9 h9
              rcases h9 with ⟨h9, -⟩ | ⟨y, q, hq, -, he, r2', u2', P9, H9, b9, t9⟩
              · exfalso
                rcases h9 with h | ⟨y, q, hq, hl⟩
                · have := HM.out.length_eq; rw [h] at this; simp at this
                · have := HMX.out y; omega
              · subst hq
                obtain rfl : x = y := HFS.out y q u2 HB8.out
                rw [HTT.out] at he
                subst he
                have HA9 := hid (HA8.out.keep t9.1 HD8.out)
                have HD9 := hid (disj_new HD8.out HA8.out.lt t9.2)
                have HB9 := hid H9
                have HE9 : Hid (Ext w w9) := hid (Below.trans HE8.out b9)
                have HV9 := hid (HV2.out.del x)
                clear H9 b9 t9 P9
                have n1 : ((x.toNat : Int) != (x.toNat : Int)) = false := by simp
                have n2 : (t != t) = false := by simp
                go_wp2
                go_roundw
                case rel => exact ⟨k2 + 1, _, r1', r2', u1', u2', by omega, by go_num, HNN2, hid ⟨HA9.out, HB9.out, HD9.out⟩, HV9, HE9⟩
                case measure => simp [intOf]; omega
          · obtain rfl : k2 = X.length := by omega
            have hi2 : decide ((X.length : Int) < X.length) = false := by simp
            have h0 : r1 = [] := List.eq_nil_of_length_eq_zero (by have := HN2.out; omega)
            subst h0
            go_wp2_with fail
            refine (hlen_any w.heap.size _ p mt mp _ _ _ HT2.out.a).mono ?_
            rintro e w9 ⟨rfl, rfl⟩
            rw [show ((([] : List UInt64).length : Nat) : Int) = 0 from rfl]
            go_wp2
            go_ret
            exact ⟨rfl, HE2.out⟩
end Go.Proofs.Ytkagacopgjcdnaa
