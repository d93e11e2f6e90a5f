/- The dead: Cursors. -/
import Derived.Test.YtfpljeblehieiaaDoorDedG
set_option linter.unusedSimpArgs false
set_option linter.unusedVariables false
namespace Go.Proofs.YtfpljeblehieiaaDoor
open Go Go.RowKit Go.Tum Go.ChangeMaps Go.Sort Go.Tum.Rn
open Go.ParB (upd Lof)
open Go.ParE (putS slotsR slots Closed)

theorem infoCur : (Tryd.prog.info? 51).map (fun i => (i.zero, i.size, i.bytes)) = some (some (.agg #[.string ⟨#[]⟩, .int .u64 0]), 2, 24) := by kernel_rfl
set_option maxRecDepth 100000 in
set_option maxHeartbeats 2000000 in
theorem pdqC_any {B : Nat} {w : World} (g n cap : Nat) (lim : Int) (l : List Cur) (h : RowC w B g n cap l) (hn : l.length = n) (hn12 : n ≤ 12) (hlen : ∀ z ∈ l, z.1.length ≤ 1048576) (ht : TB w) (hg : 2 ≤ g) :
    Calls Tryd.prog 44 #[.slice (some ⟨g, 0, none⟩) n cap, .int .i64 0, .int .i64 (n : Int), .int .i64 lim, .func (.func 37) #[] #[]] w fun e w' =>
      (∃ u, e = .returned u) ∧ RowC w' B g n cap (insertionSort ltC l.toArray 0 n).toList ∧ Fr [g] w w' := by
  have HC := hid (insC_any g n cap l h hn hn12 hlen ht hg)
  clear h hn hlen ht hg
  have e12 : decide ((n : Int) ≤ 12) = true := by simp; omega
  go_enter Tryd.func44, Tryd.ntmps44
  go_wp2
  go_loopw [1, 2] (fun a b wr => a = .int .i64 0 ∧ b = .int .i64 (n : Int) ∧ wr = w) (fun _ _ _ => 0)
  case atStart => exact ⟨rfl, rfl, rfl⟩
  case round =>
    obtain ⟨rfl, rfl, rfl⟩ := hrel
    go_wp2_with fail
    refine HC.out.mono ?_
    rintro e w1 ⟨⟨u, rfl⟩, hr, hf⟩
    have HR := hid hr
    have HF := hid hf
    clear hr hf
    go_wp2
    go_returns
    exact ⟨⟨_, rfl⟩, HR.out, HF.out⟩
set_option maxHeartbeats 1000000 in
theorem sortC_any {B : Nat} {w : World} {n : Nat} {v : Value} (l : List Cur) (h : w.ownsRow B 51 2 v n (l.flatMap encC)) (hn : l.length = n) (hn12 : n ≤ 12) (hlen : ∀ z ∈ l, z.1.length ≤ 1048576) (ht : TB w) (hB : 2 ≤ B) :
    Calls Tryd.prog 36 #[v, .func (.func 37) #[] #[]] w fun e w' => (∃ u, e = .returned u) ∧ w'.ownsRow B 51 2 v n ((insertionSort ltC l.toArray 0 n).toList.flatMap encC) ∧ Fr (oB v) w w' := by
  rcases h.2 with ⟨hv, h0⟩ | ⟨g, cap, cur, hv, hb, hgg, h1, h2, h3, h4⟩
  · have hl0 : l = [] := List.length_eq_zero_iff.1 (by omega)
    subst hv hl0 h0
    refine (AnyF.slices_SortFunc_none Tryd.sortCur none 0 _ w).mono ?_
    rintro e w' ⟨rfl, rfl⟩
    exact ⟨⟨_, rfl⟩, by simpa [insertionSort, insOuter] using h, Fr.refl _ _⟩
  · subst hv
    have hc := fun lim => pdqC_any g n cap lim l h hn hn12 hlen ht (by omega)
    have HC := hid hc
    have hbl : ∀ w2, Calls Tryd.prog 45 #[.int .u64 (n : Int)] w2 fun e w3 => (∃ k : Int, e = .returned (.int .i64 k)) ∧ w3 = w2 := fun w2 => (Tryd.bits_Len n w2 (by omega) (by omega)).mono fun _ _ hh => ⟨⟨_, hh.1⟩, hh.2⟩
    have HBL := hid hbl
    clear h hc hn hlen ht hB hb hgg h1 h2 h3 h4 hbl
    go_enter Tryd.func36, Tryd.ntmps36
    go_wp2_with fail
    refine (HBL.out w).mono ?_
    rintro e w1 ⟨⟨k, rfl⟩, rfl⟩
    go_wp2_with fail
    refine (HC.out k).mono ?_
    rintro e w2 ⟨⟨u, rfl⟩, hr, hf⟩
    have HR := hid hr
    have HF := hid hf
    clear hr hf
    go_wp2
    go_returns
    exact ⟨⟨_, rfl⟩, HR.out, by simpa [oB, Value.ownBlock] using HF.out⟩
/-- What may be taken for granted of the dead. -/
structure WD (s : PD) : Prop where
  rs : s.rows.Pairwise fun x y => x.2 < y.2
  rl : ∀ z ∈ s.rows, z.2 ≤ s.last ∧ 0 < z.2
  sr : ∀ z ∈ s.seen, rightL z.1 = true ∧ foldL z.1 = z.1 ∧ z.2 ≤ s.last
  ss : s.seen.Pairwise fun x y => ltC x y = true
  s8 : s.seen.length ≤ 8
theorem swoC : SWO ltC where
  irrefl x := lessR_irrefl _
  trans x y z h1 h2 := lessR_trans _ _ _ h1 h2
  ntrans x y z h1 h2 := by
    unfold ltC at *
    cases h : lessR (runes x.1) (runes z.1) with
    | false => rfl
    | true =>
      exfalso
      have hyx : runes x.1 = runes y.1 ∨ lessR (runes y.1) (runes x.1) = true := by
        by_cases e : runes x.1 = runes y.1
        · exact .inl e
        · exact .inr (lessR_total _ _ e h1)
      have hzy : runes y.1 = runes z.1 ∨ lessR (runes z.1) (runes y.1) = true := by
        by_cases e : runes y.1 = runes z.1
        · exact .inl e
        · exact .inr (lessR_total _ _ e h2)
      rcases hyx with e1 | e1
      · rw [e1] at h; rw [h] at h2; cases h2
      · rcases hzy with e2 | e2
        · rw [← e2] at h; rw [h] at h1; cases h1
        · have h3 := lessR_trans _ _ _ e2 e1
          have h4 := lessR_asymm _ _ h
          rw [h3] at h4; cases h4
theorem ins_perm (l : List Cur) : (insertionSort ltC l.toArray 0 l.length).toList.Perm l ∧ (insertionSort ltC l.toArray 0 l.length).toList.Pairwise fun x y => ltC y x = false := by
  obtain ⟨⟨p1, p2, p3⟩, p4⟩ := insertionSort_holds swoC l.toArray 0 l.length (Nat.zero_le _) (by simp)
  have hsz : (insertionSort ltC l.toArray 0 l.length).size = l.length := by simpa using p1
  obtain ⟨D, hD⟩ : ∃ D, insertionSort ltC l.toArray 0 l.length = D := ⟨_, rfl⟩
  rw [hD] at p3 p4 hsz ⊢
  constructor
  · have e1 : D.extract 0 l.length = D := by rw [← hsz]; simp
    have e2 : l.toArray.extract 0 l.length = l.toArray := by simp
    rw [e1, e2] at p3
    exact p3
  · rw [List.pairwise_iff_getElem]
    intro i j hi hj hij
    have := p4 i j (Nat.zero_le _) hij (by simpa [hsz] using hj)
    rw [getElem!_pos D i (by simpa using hi), getElem!_pos D j (by simpa using hj)] at this
    simpa using this
/-- Cursors, however they lay, sorted. -/
theorem ins_seen {s : PD} (hw : WD s) (hn : (s.seen.map Prod.fst).Nodup) {L : List Cur} (hp : L.Perm s.seen) : (insertionSort ltC L.toArray 0 L.length).toList = s.seen := by
  obtain ⟨h1, h2⟩ := ins_perm L
  refine List.Perm.eq_of_pairwise (le := fun x y => ltC y x = false) (fun a b ha hb k1 k2 => ?_) h2 (hw.ss.imp fun {a b} h => lessR_asymm _ _ h) (h1.trans hp)
  have ha' : a ∈ s.seen := (h1.trans hp).mem_iff.1 ha
  have hr : runes a.1 = runes b.1 := by
    by_cases e : runes a.1 = runes b.1
    · exact e
    · have := lessR_total _ _ e k2
      unfold ltC at k1
      rw [this] at k1; cases k1
  have hname := right_inj (hw.sr a ha').1 (hw.sr b hb).1 hr
  have e1 := nodup_lku hn ha'
  have e2 := nodup_lku hn hb
  rw [hname] at e1
  rw [e1] at e2
  exact Prod.ext hname (by simpa using e2)
theorem enc1_le (r : Nat) (hr : okR r) : (Lib.encodeRune (r : Int)).length ≤ 4 := by
  unfold Lib.encodeRune
  rw [List.length_map]
  exact (Lib.encodeRuneZ_length _).2
theorem enc_le : ∀ (l : List Nat), (∀ r ∈ l, okR r) → (enc l).length ≤ 4 * l.length
  | [], _ => by simp [enc]
  | r :: l, h => by
    rw [enc_cons, List.length_append, List.length_cons]
    have := enc1_le r (h r (by simp))
    have := enc_le l (fun q hq => h q (by simp [hq]))
    omega
theorem right_len {l : List UInt8} (h : rightL l = true) : l.length ≤ 32 := by
  have h1 := enc_le (runes l) (runes_ok l)
  rw [right_enc h] at h1
  have h2 : (runes l).length ≤ 8 := by
    unfold rightL at h
    simp at h
    exact h.2.1
  omega
theorem TB.two {w : World} (h : TB w) : 2 ≤ w.heap.size := by
  have := World.block_lt_of_cell? w _ (h.2 0 (by decide)).1
  have : 1 < w.heap.size := by simpa using this
  omega
theorem cur_one (w : World) (e : Nat) (z : Cur) : Sl (w.alloc (.cells #[vN z.1, vU z.2] e (0, 0))) 2 (.slice (some ⟨w.heap.size, 0, none⟩) 1 1) 1 (encC z) := by
  have hblk := heap_alloc_new w (.cells #[vN z.1, vU z.2] e (0, 0))
  refine ⟨rfl, some ⟨w.heap.size, 0, none⟩, 1, rfl, Nat.le_refl _, by simp [maxLen], (fun h => by cases h), fun a ha j u hu => ?_⟩
  cases ha
  have e1 : (⟨w.heap.size, 0, none⟩ : Addr).add j = ⟨w.heap.size, j, none⟩ := by unfold Addr.add; split <;> simp_all
  rw [e1, cell_of_row _ _ _ _ _ _ hblk]
  simpa using hu
def CurP (w : World) (l : List Cur) (e : Ending) (w' : World) : Prop := (∃ v, e = .returned v ∧ w'.ownsRow w.heap.size 51 2 v l.length (l.flatMap encC)) ∧ Ext w w'
set_option maxRecDepth 100000 in
set_option maxHeartbeats 2000000 in
theorem dcursors_any {w : World} {p mp ms : Nat} {s : PD} (h : DD w p mp ms s) (hw : WD s) (ht : TB w) :
    Calls Tryd.prog 22 #[pv p] w fun e w' => CurP w s.seen e w' := by
  obtain ⟨-, -, c2, -⟩ := lk3 h.hd
  obtain ⟨l, hl, pl⟩ := h.sm
  have HM := hid hl
  have HPL := hid pl
  have HND := hid (perm_nodup pl h.ns)
  have HNS := hid h.ns
  have HW := hid hw
  have HT := hid ht
  clear h hl pl hw ht
  go_enter Tryd.func22, Tryd.ntmps22
  go_wp2_with (at_range; refine wpList_range_PMN _ Tryd.underlying66 rfl _ rfl ms l rfl HM.out HND.out ?_; intro w0 hrg0 hE0; have HRG := hid hrg0; have HE0 := hid hE0; clear hrg0 hE0)
  obtain ⟨r, hr⟩ : ∃ r, w.heap.size = r := ⟨_, rfl⟩
  rw [hr] at HRG ⊢
  have HRr := hid hr
  clear hr
  go_frame
  go_loopw [3] (fun v wr => ∃ (rem : List Cur) (cnt : Nat) (ss : List Cur) (ao : Option Addr) (n cap : Nat), v = .slice ao n cap ∧ Hid (n = ss.length) ∧ Hid (wr.ownsRow w.heap.size 51 2 (.slice ao n cap) n (ss.flatMap encC)) ∧ Hid (RNGN wr ms r l rem cnt) ∧ Hid ((ss ++ rem).Perm l) ∧ Hid (Ext w wr)) (fun _ wr => wr.rangeLeft ms r)
  case atStart => exact ⟨l, _, [], none, 0, 0, rfl, hid rfl, hid (World.ownsRow_nil _ _ _ _), HRG, hid (List.Perm.refl _), HE0⟩
  case round =>
    obtain ⟨rem, cnt, ss, ao, n, cap, rfl, HN, HO, HRG, HP, HE⟩ := hrel
    have HSL : Hid (ss.length + rem.length ≤ 8) := hid (by have h1 := HP.out.length_eq; rw [List.length_append] at h1; have h3 := HPL.out.length_eq; have := HW.out.s8; omega)
    go_wp2_with (first
      | (at_next; refine wpList_next_RNGN _ rfl _ rfl ms r cnt l rem rfl HRG.out ?_ ?_))
    · intro h0
      subst h0
      have hperm : ss.Perm s.seen := by have := HP.out; rw [List.append_nil] at this; exact this.trans HPL.out
      have HSS : Hid ((insertionSort ltC ss.toArray 0 n).toList = s.seen) := hid (by rw [HN.out]; exact ins_seen HW.out HNS.out hperm)
      have HLE : Hid (n = s.seen.length) := hid (by rw [HN.out]; exact hperm.length_eq)
      have HC := hid (sortC_any (w := wr) ss HO.out HN.out.symm (by have := HSL.out; rw [HN.out]; omega) (fun z hz => by have := right_len (HW.out.sr z (hperm.mem_iff.1 hz)).1; omega) (TBx HT.out HE.out) HT.out.two)
      clear hperm
      go_wp2_with fail
      refine HC.out.mono ?_
      rintro e w9 ⟨⟨u, rfl⟩, ho, hf⟩
      have HO9 : Hid (w9.ownsRow w.heap.size 51 2 (.slice ao n cap) s.seen.length (s.seen.flatMap encC)) := hid (by rw [HSS.out] at ho; rw [← HLE.out]; exact ho)
      have HE9 : Hid (Ext w w9) := hid (Below.trans HE.out (hf.below (row_lo HO.out) HE.out.size))
      clear ho hf
      go_wp2
      go_ret
      exact ⟨⟨_, rfl, HO9.out⟩, HE9.out⟩
    · intro x b w' cnt' k1 k2 k3 k4 k5 k6 k7
      have hrit : ∀ q ∈ oB (.slice ao n cap), q ∉ [r] := fun q hq hq2 => by
        obtain rfl : q = r := by simpa using hq2
        obtain ⟨cs, hc⟩ := row_kind HO.out q hq
        obtain ⟨o, ho, hn⟩ := HRG.out.blocks.2
        rw [ho] at hc; cases hc; exact hn _ _ rfl
      have HO2 := hid (ownsRow_fr HO.out k6 hrit)
      have HE2 : Hid (Ext w w') := hid (Below.trans HE.out (k6.below (by simp; have := HRr.out; omega) HE.out.size))
      have HRG2 := hid k4
      have HK6 : Hid (cnt' < wr.rangeLeft ms r) := hid (by rw [HRG.out.left]; exact k5)
      have HP2 : Hid (((ss ++ [(x, b)]) ++ noK rem x).Perm l) := hid (by
        have h2 := (List.Perm.append_left ss (noK_perm k1 HRG.out.nd)).trans HP.out
        simpa using h2)
      have hnb : n ≤ 8 := by have := HSL.out; rw [HN.out]; omega
      have HSL1 := hid (cur_one w' 51 (x, b))
      clear k1 k2 k3 k4 k5 k6 hrit
      go_wp2_with (at_builtin; refine wpList_append_slN rfl (.tmp 16) (.tmp 20) 46 rfl w.heap.size 51 Tryd.underlying46 infoCur rfl (by decide) rfl ((Ext.alloc w' _).owns HO2.out) rfl HSL1.out (by intro y hy; simp at hy; rcases hy with rfl | rfl <;> rfl) (n + 1) (by omega) (by simp [maxLen]; omega) (by omega) (Nat.le_trans HE2.out.size (by simp)) ?_; intro ao3 cap3 w3 hO3 hg3 hb3; have HO3 := hid hO3; have HE3 : Hid (Ext w w3) := hid (Below.trans (HE2.out.trans (Ext.alloc _ _)) hb3); have HF3 := hid hg3; clear hO3 hg3 hb3)
      have HRG6 : Hid (RNGN w3 ms r l (noK rem x) cnt') := hid (by
        have h1 := HRG2.out.ext (Ext.alloc w' (.cells #[vN x, vU b] 51 (0, 0)))
        refine h1.kept HF3.out ?_ ?_
        · intro hq
          obtain ⟨cs, hc⟩ := row_kind ((Ext.alloc w' (.cells #[vN x, vU b] 51 (0, 0))).owns HO2.out) _ hq
          obtain ⟨o, ho, hn⟩ := h1.blocks.1
          rw [ho] at hc; cases hc; exact hn _ _ rfl
        · intro hq
          obtain ⟨cs, hc⟩ := row_kind ((Ext.alloc w' (.cells #[vN x, vU b] 51 (0, 0))).owns HO2.out) _ hq
          obtain ⟨o, ho, hn⟩ := h1.blocks.2
          rw [ho] at hc; cases hc; exact hn _ _ rfl)
      go_roundw
      case rel => exact ⟨noK rem x, cnt', ss ++ [(x, b)], ao3, n + 1, cap3, rfl, hid (by rw [List.length_append, HN.out]; rfl), hid (by rw [List.flatMap_append]; simpa using HO3.out), HRG6, HP2, HE3⟩
      case measure => rw [HRG6.out.left]; exact HK6.out
end Go.Proofs.YtfpljeblehieiaaDoor
