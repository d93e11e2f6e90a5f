/- The document's heap: a block with a row of entries; find, First, At. -/
import Derived.Test.YtkagacopgjcdnaaDueP
import Derived.Test.YtkagacopgjcdnaaParE
set_option linter.unusedSimpArgs false
set_option linter.unusedVariables false
namespace Go.Proofs.Ytkagacopgjcdnaa
open Go Go.RowKit Go.Tum Go.ChangeMaps Go.Tum.Hp

abbrev ecells (z : Ent) : List Value := [vU z.1, vU z.2]
def OwE (w : World) (b : Nat) (v : Value) (L : List Ent) : Prop := w.ownsRow b 54 2 v L.length (L.flatMap ecells)
theorem OwE.rows {w : World} {b : Nat} {v : Value} {L : List Ent} (h : OwE w b v L) : RowsOf w 2 v ecells L := ⟨fun _ _ => rfl, Sl.of_owns h⟩
theorem OwE.ext {w w' : World} {b : Nat} {v : Value} {L : List Ent} (h : OwE w b v L) (k : Ext w w') : OwE w' b v L := k.owns h
theorem OwE.mono {w : World} {b b' : Nat} {v : Value} {L : List Ent} (h : OwE w b v L) (hb : b' ≤ b) : OwE w b' v L := owns_mono h hb
theorem OwE.nil (w : World) (b : Nat) : OwE w b (.slice none 0 0) [] := World.ownsRow_nil _ _ _ _
theorem OwE.shape {w : World} {b : Nat} {v : Value} {L : List Ent} (h : OwE w b v L) : ∃ ao cap, v = .slice ao L.length cap := by
  obtain ⟨ao, cap, h, _⟩ := h.rows.open; exact ⟨ao, cap, h⟩
theorem ownsRow_fr {w w' : World} {b e n s : Nat} {v : Value} {xs : List Value} {S : List Nat} (h : w.ownsRow b e s v n xs) (f : Fr S w w') (hs : ∀ q ∈ S, ∃ o, w.heap[q]? = some o ∧ ∀ cs, o ≠ .cells cs e (0, 0)) : w'.ownsRow b e s v n xs := by
  refine ⟨h.1, ?_⟩
  rcases h.2 with hn | ⟨g, cap, cur, hv, hb, hgg, rest⟩
  · exact .inl hn
  · refine .inr ⟨g, cap, cur, hv, hb, ?_, rest⟩
    rw [f.block g (Array.getElem?_eq_some_iff.1 hgg).1 fun hm => ?_]; exact hgg
    obtain ⟨o, ho, hne⟩ := hs g hm
    rw [ho] at hgg; cases hgg; exact hne _ rfl
/-- The document's heap. -/
def RH (b : Nat) (w : World) (r : Nat) (L : List Ent) : Prop := ∃ v, w.heap[r]? = some (.cells #[v] 30 (0, 0)) ∧ OwE w b v L
theorem RH.lt {b : Nat} {w : World} {r : Nat} {L : List Ent} (h : RH b w r L) : r < w.heap.size := by
  obtain ⟨v, h, -⟩ := h
  exact (Array.getElem?_eq_some_iff.1 h).1
theorem RH.ext {b : Nat} {w w' : World} {r : Nat} {L : List Ent} (h : RH b w r L) (k : Ext w w') : RH b w' r L := by
  obtain ⟨v, h, o⟩ := h
  exact ⟨v, k.obj h, o.ext k⟩
theorem ent_drop {L : List Ent} {k : Nat} : (L.flatMap ecells).drop (k * 2) = (L.drop k).flatMap ecells := by
  induction L generalizing k with
  | nil => simp
  | cons z r ih =>
    cases k with
    | zero => simp
    | succ k => rw [show (k + 1) * 2 = k * 2 + 1 + 1 by omega]; simpa using ih (k := k)
theorem ent_take {L : List Ent} {k : Nat} : (L.flatMap ecells).take (k * 2) = (L.take k).flatMap ecells := by
  induction L generalizing k with
  | nil => simp
  | cons z r ih =>
    cases k with
    | zero => simp
    | succ k => rw [show (k + 1) * 2 = k * 2 + 1 + 1 by omega]; simpa using ih (k := k)
/-- A slice of entries. -/
def SlE (w : World) (v : Value) (L : List Ent) : Prop := Sl w 2 v L.length (L.flatMap ecells)
theorem SlE.ext {w w' : World} {v : Value} {L : List Ent} (h : SlE w v L) (k : Ext w w') : SlE w' v L := Sl.ext h k
theorem OwE.sl {w : World} {b : Nat} {v : Value} {L : List Ent} (h : OwE w b v L) : SlE w v L := Sl.of_owns h
theorem SlE.take {w : World} {ao : Option Addr} {cap : Nat} {L : List Ent} (h : SlE w (.slice ao L.length cap) L) (hi : Nat) (h2 : hi ≤ L.length) : SlE w (.slice ao hi cap) (L.take hi) := by
  have := Sl.part h 0 hi (Nat.zero_le _) h2 ao (by split <;> cases ao <;> simp [Addr.add])
  unfold SlE
  rw [List.length_take, Nat.min_eq_left h2, ← ent_take]
  simpa using this
theorem SlE.drop {w : World} {ao : Option Addr} {cap : Nat} {L : List Ent} (h : SlE w (.slice ao L.length cap) L) (lo : Nat) (h1 : lo ≤ L.length) (ao' : Option Addr) (hao : ao' = if cap = lo then ao else ao.map (·.add (lo * 2))) (k c : Nat) (hk : k = L.length - lo) (hc : c = cap - lo) :
    SlE w (.slice ao' k c) (L.drop lo) := by
  subst hk hc
  have := Sl.part h lo L.length h1 (Nat.le_refl _) ao' hao
  unfold SlE
  rw [List.length_drop, ← ent_drop]
  rwa [List.take_of_length_le] at this
  have := h.1
  rw [List.length_drop, this]; omega
theorem ent_one (L : List Ent) : ∀ y ∈ L.flatMap ecells, y.oneCell' = true := by
  intro y hy
  obtain ⟨z, _, hz⟩ := List.mem_flatMap.1 hy
  simp at hz
  rcases hz with rfl | rfl <;> rfl
theorem SlE.one (w : World) (x a : UInt64) : SlE (w.alloc (.cells #[vU x, vU a] 54)) (.slice (some ⟨w.heap.size, 0, none⟩) 1 1) [(x, a)] := by
  refine ⟨rfl, some ⟨w.heap.size, 0, none⟩, 1, rfl, Nat.le_refl _, by simp [maxLen], (fun h => by cases h), fun a' ha j u hu => ?_⟩
  cases ha
  have e1 : (⟨w.heap.size, 0, none⟩ : Addr).add j = ⟨w.heap.size, j, none⟩ := by unfold Addr.add; split <;> simp_all
  rw [e1, cell_of_row (w.alloc (.cells #[vU x, vU a] 54)) w.heap.size j #[vU x, vU a] _ _ (heap_alloc_new _ _)]
  simpa using hu
theorem OwE.lit0 (w : World) (b : Nat) (hb : b ≤ w.heap.size) : OwE (w.alloc (.cells #[] 54)) b (.slice (some ⟨w.heap.size, 0, none⟩) 0 0) [] := by
  have := World.ownsRow_lit (base := b) (e := 54) (size := 2) w #[] 0 hb (by simp [maxLen]) (by simp)
  simpa [OwE] using this
theorem infoEnt : (Try.prog.info? 54).map (fun i => (i.zero, i.size, i.bytes)) = some (some (.agg #[.int .u64 0, .int .u64 0]), 2, 16) := by kernel_rfl
theorem run_append_ent (base ty : Nat) {w : World} {v u : Value} {l1 l2 : List Ent} (hown : OwE w base v l1) (hsl : SlE w u l2) (hb : l1.length + l2.length ≤ 1000000) (hbase : base ≤ w.heap.size) :
    ∃ ao cap w', (Builtin.append_ #[28, 28] ty #[v, u]).run Try.prog w = .ok (.slice ao (l1.length + l2.length) cap) w' ∧ OwE w' base (.slice ao (l1.length + l2.length) cap) (l1 ++ l2) ∧ w.grownBy w' v.ownBlock ∧ Below base w w' := by
  obtain ⟨ao, cap, w', h1, h2, h3, h4⟩ := run_append_sl (P := Try.prog) base 28 ty 54 Try.underlying28 infoEnt rfl (by decide) hown hsl (ent_one l2) (by simp [maxLen]; omega) (by omega) hbase
  exact ⟨ao, cap, w', h1, by unfold OwE; simpa using h2, h3, h4⟩
theorem wpList_append_ent {ops : Array Oper} {rest : List Oper} {o : Oper} {a : Act} {w : World} {Q : Exit → Act → World → Prop} (hgd : o.guard = none) (s x : Operand)
    (ho : o.op = .call { callee := .builtin .append, args := #[s, x], argTypes := #[28, 28] }) (base : Nat)
    {v : Value} {l1 : List Ent} (hs : a.eval s = v) (hown : OwE w base v l1) {u : Value} {l2 : List Ent} (hx : a.eval x = u) (hsl : SlE w u l2)
    (N : Nat) (hN : N = l1.length + l2.length) (hb : N ≤ 1000000) (hbase : base ≤ w.heap.size)
    (h : ∀ ao cap w', OwE w' base (.slice ao N cap) (l1 ++ l2) → w.grownBy w' v.ownBlock → Below base w w' → wpList Try.prog ops Q rest (a.put o.dst (.slice ao N cap)) w') :
    wpList Try.prog ops Q (o :: rest) a w := by
  subst hN
  refine wpList_append_sl hgd s x 28 ho base 54 Try.underlying28 infoEnt rfl (by decide) hs hown hx hsl (ent_one l2) (by simp [maxLen]; omega) (by omega) hbase fun ao cap w' h1 h2 h3 => h ao cap w' ?_ h2 h3
  unfold OwE; simpa using h1

theorem fdE_step {L : List Ent} {x : UInt64} : (∃ k, ∃ hk : k < L.length, (∀ j, j < k → ∀ h : j < L.length, L[j].1 ≠ x) ∧ L[k].1 = x ∧ fdE L x 0 = (k : Int)) ∨ (x ∉ L.map Prod.fst ∧ fdE L x 0 = -1) := by
  by_cases h : x ∈ L.map Prod.fst
  · left
    have hex : ∃ k, ∃ hk : k < L.length, L[k].1 = x := by
      obtain ⟨z, hz, e⟩ := List.mem_map.1 h
      obtain ⟨k, hk, e2⟩ := List.mem_iff_getElem.1 hz
      exact ⟨k, hk, by rw [e2]; exact e⟩
    have key : ∀ n, ∀ k, k ≤ n → (∃ hk : k < L.length, L[k].1 = x) → ∃ k, ∃ hk : k < L.length, (∀ j, j < k → ∀ h : j < L.length, L[j].1 ≠ x) ∧ L[k].1 = x := by
      intro n
      induction n with
      | zero => intro k hk ⟨h1, h2⟩; exact ⟨k, h1, fun j hj => absurd hj (by omega), h2⟩
      | succ n ih =>
        intro k hk ⟨h1, h2⟩
        by_cases hall : ∀ j, j < k → ∀ h : j < L.length, L[j].1 ≠ x
        · exact ⟨k, h1, hall, h2⟩
        · obtain ⟨j, hj⟩ := Classical.not_forall.1 hall
          obtain ⟨hjk, hj2⟩ := Classical.not_forall.1 hj
          obtain ⟨hjl, hj3⟩ := Classical.not_forall.1 hj2
          exact ih j (by omega) ⟨hjl, Classical.byContradiction hj3⟩
    obtain ⟨k0, h0⟩ := hex
    obtain ⟨k, hk, h1, h2⟩ := key k0 k0 (Nat.le_refl _) h0
    exact ⟨k, hk, h1, h2, by rw [fdE_of hk (fun j h => h1 j h (by omega)) h2]; simp⟩
  · right
    exact ⟨h, fdE_none fun z hz e => h (by rw [← e]; exact List.mem_map_of_mem (f := Prod.fst) hz)⟩

set_option maxRecDepth 100000 in
set_option maxHeartbeats 1000000 in
theorem rfind_any (b : Nat) (w : World) (r : Nat) (L : List Ent) (x : UInt64) (h : RH b w r L) :
    Calls Try.prog 23 #[pv r, vU x] w fun e w' => e = .returned (.int .i64 (fdE L x 0)) ∧ w = w' := by
  obtain ⟨v, hr, ho⟩ := h
  obtain ⟨c0, -⟩ := box1 hr
  obtain ⟨ao, cap, rfl, hle, hm, hnn, hcell⟩ := ho.rows.open
  have HC := hid hcell
  have HNN := hid hnn
  clear hr ho hcell hnn
  go_enter Try.func23, Try.ntmps23
  go_wp2
  go_loopw [5] (fun i wr => ∃ k : Nat, k ≤ L.length ∧ i = .int .i64 k ∧ Hid (∀ j (h : j < k) (h2 : j < L.length), L[j].1 ≠ x) ∧ wr = w) (fun i _ => L.length - (intOf i).toNat)
  case atStart => exact ⟨0, by omega, rfl, hid (fun j h => absurd h (by omega)), rfl⟩
  case round =>
    obtain ⟨k, hk, rfl, HE, rfl⟩ := hrel
    by_cases hlt : k < L.length
    · obtain ⟨a, rfl⟩ := HNN.out (by omega)
      have hc := cell_first (HC.out a rfl k hlt 0 _ rfl)
      have hi1 : decide ((k : Int) < L.length) = true := by simp; omega
      have hi2 : decide (k < L.length) = true := by simp; omega
      obtain ⟨y, hy⟩ : ∃ y, L[k].1 = y := ⟨_, rfl⟩
      have HY := hid hy
      rw [hy] at hc
      clear hy
      by_cases he : y = x
      · have hne : ((y.toNat : Int) == (x.toNat : Int)) = true := by simp [he]
        have HX := hid he
        clear he
        go_wp2
        go_ret
        refine ⟨?_, rfl⟩
        rw [fdE_of hlt (fun j h => HE.out j h (by omega)) (HY.out.trans HX.out)]
        simp
      · have hne : ((y.toNat : Int) == (x.toNat : Int)) = false := by
          simp; intro e; exact he (UInt64.toNat_inj.1 (by omega))
        have HX := hid he
        clear he
        go_wp2
        go_roundw
        case rel => exact ⟨k + 1, by omega, by go_num, hid (by
          intro j hj hjl
          by_cases hjk : j = k
          · subst hjk; rw [HY.out]; exact HX.out
          · exact HE.out j (by omega) hjl), trivial⟩
        case measure => simp [intOf]; omega
    · obtain rfl : k = L.length := by omega
      have hi1 : decide ((L.length : Int) < L.length) = false := by simp
      go_wp2
      go_ret
      refine ⟨?_, rfl⟩
      have hall : ∀ z ∈ L, z.1 ≠ x := fun z hz => by
        obtain ⟨j, hj, e⟩ := List.mem_iff_getElem.1 hz
        rw [← e]; exact HE.out j hj hj
      rw [fdE_none hall]; rfl

set_option maxHeartbeats 1000000 in
theorem rhfirst_any (b : Nat) (w : World) (r : Nat) (L : List Ent) (h : RH b w r L) :
    Calls Try.prog 17 #[pv r] w fun e w' => e = .returned (fstE L) ∧ Ext w w' := by
  obtain ⟨v, hr, ho⟩ := h
  obtain ⟨c0, -⟩ := box1 hr
  obtain ⟨ao, cap, rfl, hle, hm, hnn, hcell⟩ := ho.rows.open
  clear hr ho
  cases L with
  | nil =>
    go_enter Try.func17, Try.ntmps17
    go_wp2
    go_returns
    exact ⟨rfl, Ext.refl _⟩
  | cons z M =>
    obtain ⟨a, rfl⟩ := hnn (by simp at hle; omega)
    have hc := cell_first (hcell a rfl 0 (by simp) 0 _ rfl)
    have hc1 := cell_next (hcell a rfl 0 (by simp) 1 _ rfl) (by decide)
    simp only [List.getElem_cons_zero, Addr.add, Nat.zero_eq, if_true, Nat.zero_mul] at hc hc1
    have hi1 : (((z :: M).length : Int) == 0) = false := by simp; omega
    have hi2 : 0 < (z :: M).length := by simp
    have hf : fstE (z :: M) = .tuple #[vU z.1, vU z.2, .bool true] := rfl
    rw [hf]
    obtain ⟨n, hn⟩ : ∃ n, (z :: M).length = n := ⟨_, rfl⟩
    rw [hn] at c0 hi1 hi2
    clear hcell hnn hle hn hf
    go_enter Try.func17, Try.ntmps17
    go_wp2_with fail
    go_quiet (fail)
    go_wp2
    go_returns
    exact ⟨rfl, Ext.drewN _ _⟩

set_option maxHeartbeats 1000000 in
theorem rhat_any (b : Nat) (w : World) (r : Nat) (L : List Ent) (x : UInt64) (h : RH b w r L) :
    Calls Try.prog 19 #[pv r, vU x] w fun e w' => e = .returned (atE L x) ∧ w = w' := by
  have HR := hid h
  obtain ⟨v, hr, ho⟩ := h
  obtain ⟨c0, -⟩ := box1 hr
  obtain ⟨ao, cap, rfl, hle, hm, hnn, hcell⟩ := ho.rows.open
  have HC := hid hcell
  have HNN := hid hnn
  clear hr ho hcell hnn
  rcases fdE_step (L := L) (x := x) with ⟨k, hk, h1, h2, hf⟩ | ⟨hn, hf⟩
  · obtain ⟨a, rfl⟩ := HNN.out (by omega)
    have hc := cell_next (HC.out a rfl k hk 1 _ rfl) (by decide)
    have hi1 : decide ((k : Int) < 0) = false := by simp
    have hi2 : k < L.length := hk
    have HA : Hid (atE L x = .tuple #[vU L[k].2, .bool true]) := hid (by unfold atE; rw [lkE_at hk (fun j h => h1 j h (by omega)) h2]; rfl)
    have HF := hid hf
    clear hf h1 h2
    obtain ⟨y, hy⟩ : ∃ y, L[k].2 = y := ⟨_, rfl⟩
    rw [hy] at hc HA
    clear hy
    go_enter Try.func19, Try.ntmps19
    go_wp2_with fail
    refine (rfind_any b _ r L x HR.out).mono ?_
    rintro e w1 ⟨rfl, rfl⟩
    rw [HF.out]
    go_wp2
    go_returns
    exact ⟨by rw [HA.out]; rfl, rfl⟩
  · have HA : Hid (atE L x = .tuple #[.int .u64 0, .bool false]) := hid (by unfold atE; rw [lkE_none hn]; rfl)
    have HF := hid hf
    clear hf hn
    go_enter Try.func19, Try.ntmps19
    go_wp2_with fail
    refine (rfind_any b _ r L x HR.out).mono ?_
    rintro e w1 ⟨rfl, rfl⟩
    rw [HF.out]
    go_wp2
    go_returns
    exact ⟨by rw [HA.out]; rfl, rfl⟩
end Go.Proofs.Ytkagacopgjcdnaa
