/- The document's disk: Held.
States for drawn regions: three operations that turn the world, each behind the one before, of which the last gives a value too, that is copied.
The document's disk: with.
The document's disk: Rename.
The document's disk: Create.
The document's disk: a file's cells in the row; Sync.
The document's disk: Cut. -/
import Derived.Test.YtijpokajhjhllaaGreatDoorRg
import Derived.Test.YtijpokajhjhllaaGreatDoorDskMA
import Derived.Test.YtijpokajhjhllaaGreatDoorRgC
set_option linter.unusedVariables false
namespace Go.Rg
open Go.RowKit Go.Tum
open Go.ParB (upd Lof)
open Go.ParE (putS slotsR slots Closed)
/-- k0 gives slot d0, k1 slot d1, k2 slot d2, which k3 copies to d3. -/
structure R3V (W : World) (k0 d0 k1 d1 k2 d2 k3 d3 : Nat) (Q0 Q1 Q2 : Value → World → Prop) (L : Nat → Bool) (σ : Nat → Value) (w : World) : Prop where
  a : L k0 = false → L k1 = false → L k2 = false → Ext W w
  s : L k0 = true → L k1 = false → L k2 = false → Q0 (σ d0) w
  b : L k1 = true → L k2 = false → Q1 (σ d1) w
  z : L k2 = true → Q2 (σ d2) w
  y : L k3 = true → Q2 (σ d3) w
section
variable {W w w' : World} {k0 d0 k1 d1 k2 d2 k3 d3 : Nat} {Q0 Q1 Q2 : Value → World → Prop} {L : Nat → Bool} {σ σ' : Nat → Value}
theorem R3V.start : R3V W k0 d0 k1 d1 k2 d2 k3 d3 Q0 Q1 Q2 (fun _ => false) σ { W with drawn := W.drawn + 1 } := ⟨fun _ _ _ => Ext.draw W, fun h => by simp at h, fun h => by simp at h, fun h => by simp at h, fun h => by simp at h⟩
theorem R3V.other (h : R3V W k0 d0 k1 d1 k2 d2 k3 d3 Q0 Q1 Q2 L σ w) {i : Nat} {d : Option Nat} {v : Value} (hi : (k0 ≠ i ∧ k1 ≠ i ∧ k2 ≠ i ∧ k3 ≠ i) ∧ d ≠ some d0 ∧ d ≠ some d1 ∧ d ≠ some d2 ∧ d ≠ some d3) : R3V W k0 d0 k1 d1 k2 d2 k3 d3 Q0 Q1 Q2 (upd L i) (putS σ d v) w := by
  obtain ⟨⟨i0, i1, i2, i3⟩, j0, j1, j2, j3⟩ := hi
  have e0 : putS σ d v d0 = σ d0 := by unfold putS; rw [if_neg j0]
  have e1 : putS σ d v d1 = σ d1 := by unfold putS; rw [if_neg j1]
  have e2 : putS σ d v d2 = σ d2 := by unfold putS; rw [if_neg j2]
  have e3 : putS σ d v d3 = σ d3 := by unfold putS; rw [if_neg j3]
  exact ⟨by rw [updN i0, updN i1, updN i2]; exact h.a, by rw [updN i0, updN i1, updN i2, e0]; exact h.s, by rw [updN i1, updN i2, e1]; exact h.b, by rw [updN i2, e2]; exact h.z, by rw [updN i3, e3]; exact h.y⟩
theorem R3V.zero {v : Value} (hk : k1 ≠ k0 ∧ k2 ≠ k0 ∧ k3 ≠ k0) (h1 : L k1 = false) (h2 : L k2 = false) (h3 : L k3 = false) (hq : Q0 v w') : R3V W k0 d0 k1 d1 k2 d2 k3 d3 Q0 Q1 Q2 (upd L k0) (putS σ (some d0) v) w' :=
  ⟨fun h => (by rw [updE] at h; cases h), fun _ _ _ => (by unfold putS; rw [if_pos rfl]; exact hq), fun h => (by rw [updN hk.1, h1] at h; cases h), (fun h => by rw [updN hk.2.1, h2] at h; cases h), fun h => by rw [updN hk.2.2, h3] at h; cases h⟩
theorem R3V.one {v : Value} (hk : k2 ≠ k1 ∧ k3 ≠ k1) (h2 : L k2 = false) (h3 : L k3 = false) (hq : Q1 v w') : R3V W k0 d0 k1 d1 k2 d2 k3 d3 Q0 Q1 Q2 (upd L k1) (putS σ (some d1) v) w' :=
  ⟨fun _ h => (by rw [updE] at h; cases h), fun _ h => (by rw [updE] at h; cases h), fun _ _ => (by unfold putS; rw [if_pos rfl]; exact hq), (fun h => by rw [updN hk.1, h2] at h; cases h), fun h => by rw [updN hk.2, h3] at h; cases h⟩
theorem R3V.two {v : Value} (hk : k3 ≠ k2) (h3 : L k3 = false) (hq : Q2 v w') : R3V W k0 d0 k1 d1 k2 d2 k3 d3 Q0 Q1 Q2 (upd L k2) (putS σ (some d2) v) w' :=
  ⟨fun _ _ h => (by rw [updE] at h; cases h), fun _ _ h => (by rw [updE] at h; cases h), fun _ h => (by rw [updE] at h; cases h), (fun _ => by unfold putS; rw [if_pos rfl]; exact hq), fun h => by rw [updN hk, h3] at h; cases h⟩
theorem R3V.three {v : Value} (h : R3V W k0 d0 k1 d1 k2 d2 k3 d3 Q0 Q1 Q2 L σ w) (hk : (k0 ≠ k3 ∧ k1 ≠ k3 ∧ k2 ≠ k3) ∧ d3 ≠ d0 ∧ d3 ≠ d1 ∧ d3 ≠ d2) (h2 : L k2 = true) (hv : v = σ d2) : R3V W k0 d0 k1 d1 k2 d2 k3 d3 Q0 Q1 Q2 (upd L k3) (putS σ (some d3) v) w := by
  subst hv
  obtain ⟨⟨i0, i1, i2⟩, j0, j1, j2⟩ := hk
  have e0 : putS σ (some d3) (σ d2) d0 = σ d0 := by unfold putS; rw [if_neg (by simpa using j0)]
  have e1 : putS σ (some d3) (σ d2) d1 = σ d1 := by unfold putS; rw [if_neg (by simpa using j1)]
  have e2 : putS σ (some d3) (σ d2) d2 = σ d2 := by unfold putS; rw [if_neg (by simpa using j2)]
  exact ⟨by rw [updN i0, updN i1, updN i2]; exact h.a, by rw [updN i0, updN i1, updN i2, e0]; exact h.s, by rw [updN i1, updN i2, e1]; exact h.b, by rw [updN i2, e2]; exact h.z, fun _ => by unfold putS; rw [if_pos rfl]; exact h.z h2⟩
end
end Go.Rg

set_option linter.unusedSimpArgs false
set_option linter.unusedVariables false
namespace Go.Proofs.YtijpokajhjhllaaGreatDoor
open Go Go.RowKit Go.Tum Go.ChangeMaps
open Go.ParB (upd Lof)
open Go.ParE (putS slotsR slots Closed)

theorem bytesLess_eq : ∀ (x y : List UInt8), Op.bytesLess x y = decide (x < y)
  | [], [] => by simp [Op.bytesLess]
  | _ :: _, [] => by simp [Op.bytesLess]
  | [], _ :: _ => by simp [Op.bytesLess]
  | a :: x, b :: y => by
    rw [Op.bytesLess, bytesLess_eq x y]
    simp [List.cons_lt_cons_iff, Bool.decide_or, Bool.decide_and]
    rfl

theorem ent_drop {L : Dir} {k : Nat} : (L.flatMap ecells).drop (k * 2) = (L.drop k).flatMap ecells := by
  induction L generalizing k with
  | nil => simp
  | cons z r ih =>
    cases k with
    | zero => simp
    | succ k => rw [show (k + 1) * 2 = k * 2 + 1 + 1 by omega]; simpa using ih (k := k)
theorem ent_take {L : Dir} {k : Nat} : (L.flatMap ecells).take (k * 2) = (L.take k).flatMap ecells := by
  induction L generalizing k with
  | nil => simp
  | cons z r ih =>
    cases k with
    | zero => simp
    | succ k => rw [show (k + 1) * 2 = k * 2 + 1 + 1 by omega]; simpa using ih (k := k)
/-- A slice of entries. -/
def SlD (w : World) (v : Value) (L : Dir) : Prop := Sl w 2 v L.length (L.flatMap ecells)
theorem SlD.ext {w w' : World} {v : Value} {L : Dir} (h : SlD w v L) (k : Ext w w') : SlD w' v L := Sl.ext h k
theorem SlD.take {w : World} {ao : Option Addr} {cap : Nat} {L : Dir} (h : SlD w (.slice ao L.length cap) L) (hi : Nat) (h2 : hi ≤ L.length) : SlD w (.slice ao hi cap) (L.take hi) := by
  have := Sl.part h 0 hi (Nat.zero_le _) h2 ao (by split <;> cases ao <;> simp [Addr.add])
  unfold SlD
  rw [List.length_take, Nat.min_eq_left h2, ← ent_take]
  simpa using this
theorem SlD.drop {w : World} {ao : Option Addr} {cap : Nat} {L : Dir} (h : SlD w (.slice ao L.length cap) L) (lo : Nat) (h1 : lo ≤ L.length) (ao' : Option Addr) (hao : ao' = if cap = lo then ao else ao.map (·.add (lo * 2))) (k c : Nat) (hk : k = L.length - lo) (hc : c = cap - lo) :
    SlD w (.slice ao' k c) (L.drop lo) := by
  subst hk hc
  have := Sl.part h lo L.length h1 (Nat.le_refl _) ao' hao
  unfold SlD
  rw [List.length_drop, ← ent_drop]
  rwa [List.take_of_length_le] at this
  have := h.1
  rw [List.length_drop, this]; omega
theorem tw_at {d : Dir} {n : Nm} {k : Nat} (hk : k ≤ d.length) (h : ∀ j (hj : j < k), (d[j]'(by omega)).1 < n) (he : ∀ h : k < d.length, ¬ d[k].1 < n) : d.takeWhile (fun z => decide (z.1 < n)) = d.take k ∧ d.dropWhile (fun z => decide (z.1 < n)) = d.drop k := by
  induction d generalizing k with
  | nil => simp
  | cons z r ih =>
    cases k with
    | zero =>
      have h0 := he (by simp)
      simp only [List.getElem_cons_zero] at h0
      rw [List.takeWhile_cons, List.dropWhile_cons]
      simp [h0]
    | succ k =>
      have h0 := h 0 (by omega)
      simp only [List.getElem_cons_zero] at h0
      have ih' := ih (k := k) (by simpa using hk) (fun j hj => by have := h (j + 1) (by omega); simpa using this) (fun hl => by have := he (by simpa using hl); simpa using this)
      rw [List.takeWhile_cons, List.dropWhile_cons]
      simp [h0, ih'.1, ih'.2]
theorem run_app_ent (base ty : Nat) {w : World} {v u : Value} {L M : Dir} (hown : w.ownsRow base 100 2 v L.length (L.flatMap ecells)) (hsl : SlD w u M) (hb : L.length + M.length ≤ 1000) (hbase : base ≤ w.heap.size) :
    ∃ ao cap w', (Builtin.append_ #[72, 72] ty #[v, u]).run Tryz.prog w = .ok (.slice ao (L ++ M).length cap) w' ∧ w'.ownsRow base 100 2 (.slice ao (L ++ M).length cap) (L ++ M).length ((L ++ M).flatMap ecells) ∧ Below base w w' := by
  obtain ⟨ao, cap, w', h1, h2, h3, h4⟩ := run_append_sl (P := Tryz.prog) base 72 ty 100 Tryz.underlying72 infoEnt rfl (by decide) hown hsl (ent_ones M) (by simp [maxLen]; omega) (by omega) hbase
  rw [List.length_append, List.flatMap_append]
  exact ⟨ao, cap, w', h1, h2, h4⟩
theorem ent_at {w : World} {g : Nat} {z : Nm × Nat} {e : Nat} (h : w.heap[g]? = some (.cells #[vN z.1, .int .i64 (z.2 : Int)] e (0, 0))) : SlD w (.slice (some ⟨g, 0, none⟩) 1 1) [z] := by
  refine ⟨rfl, some ⟨g, 0, none⟩, 1, rfl, Nat.le_refl _, by simp [maxLen], (fun h => by cases h), fun a ha j u hu => ?_⟩
  cases ha
  have e1 : (⟨g, 0, none⟩ : Addr).add j = ⟨g, j, none⟩ := by unfold Addr.add; split <;> simp_all
  rw [e1, cell_of_row _ _ _ _ _ _ h]
  simpa using hu
def WithP (w : World) (d : Dir) (n : Nm) (f : Nat) (e : Ending) (w' : World) : Prop := (∃ u, e = .returned u ∧ w'.ownsRow w.heap.size 100 2 u (inN d n f).length ((inN d n f).flatMap ecells)) ∧ Ext w w'
set_option maxRecDepth 100000 in
set_option maxHeartbeats 1000000 in
theorem rwith_any (w : World) (v : Value) (d : Dir) (n : Nm) (f : Nat) (h : RowsOf w 2 v ecells d) (hl : d.length ≤ 100) :
    Calls Tryz.prog 63 #[v, .agg #[vN n, .int .i64 (f : Int)]] w fun e w' => WithP w d n f e w' := by
  obtain ⟨ao, cap, rfl, hle, hm, hnn, hcell⟩ := h.open
  have hsld : SlD w (.slice ao d.length cap) d := h.2
  have HSLD := hid hsld
  have HC := hid hcell
  have HNN := hid hnn
  have HCAP : Hid (d.length ≤ cap ∧ cap ≤ 9223372036854775807) := hid ⟨hle, hm⟩
  have HB := heap_alloc_new w (.cells #[vN n, .int .i64 (f : Int)] 100 (0, 0))
  have HE1 := hid (Ext.alloc w (.cells #[vN n, .int .i64 (f : Int)] 100 (0, 0)))
  have HLE := hid hl
  clear h hnn hcell hl hsld
  go_enter Tryz.func63, Tryz.ntmps63
  go_wp2_with fail
  obtain ⟨bx, hbx⟩ : ∃ b, w.heap.size = b := ⟨_, rfl⟩
  have HBX := hid hbx
  rw [hbx] at HB
  try rw [hbx]
  generalize hW : w.alloc (.cells #[vN n, .int .i64 (f : Int)] 100 (0, 0)) = W1 at *
  clear hW hbx
  have HBB := hid HB
  clear HB
  go_wp2_with fail
  go_loopw [5] (fun i wr => ∃ k : Nat, k ≤ d.length ∧ i = .int .i64 k ∧ Hid (∀ j (hj : j < d.length), j < k → d[j].1 < n) ∧ Hid (Ext W1 wr)) (fun i _ => d.length - (intOf i).toNat)
  case atStart => exact ⟨0, by omega, rfl, hid (fun j _ h => by omega), hid (Ext.refl _)⟩
  case round =>
    obtain ⟨k, hk, rfl, HL, HE⟩ := hrel
    have HK := hid hk
    by_cases hlt : k < d.length
    · obtain ⟨a, rfl⟩ := HNN.out (by omega)
      have hEw := HE1.out.trans HE.out
      have c0 := cell_first (hEw.cell (HC.out a rfl k hlt 0 _ rfl))
      obtain ⟨z, hz⟩ : ∃ z, d[k] = z := ⟨_, rfl⟩
      have HZ := hid hz
      replace c0 : wr.cell? (a.add (k * 2)) = some (vN z.1) := by rw [← hz]; exact c0
      obtain ⟨q0, -, qf⟩ := lk2 (HE.out.obj HBB.out)
      have hi1 : (k : Int) < d.length := by omega
      clear hz hEw qf
      obtain ⟨z1, z2⟩ := z
      dsimp only at c0
      by_cases he : z1 < n
      · have hb : Op.bytesLess z1 n = true := by rw [bytesLess_eq]; simpa using he
        have HS : Hid (∀ j (hj : j < d.length), j < k + 1 → d[j].1 < n) := hid (fun j hj h => by
          by_cases hjk : j < k
          · exact HL.out j hj hjk
          · obtain rfl : j = k := by omega
            rw [HZ.out]; exact he)
        clear he
        go_wp2
        go_quiet (fail)
        go_wp2
        go_roundw
        case rel => exact ⟨k + 1, by omega, by go_num, HS, hid (HE.out.trans (Ext.drewN _ _))⟩
        case measure => simp [intOf]; omega
      · have hb : Op.bytesLess z1 n = false := by rw [bytesLess_eq]; simpa using he
        have HT : Hid (d.takeWhile (fun z => decide (z.1 < n)) = d.take k ∧ d.dropWhile (fun z => decide (z.1 < n)) = d.drop k) := hid (tw_at HK.out (fun j hj => HL.out j (by omega) hj) (fun hl => by rw [HZ.out]; exact he))
        clear he
        go_wp2
        go_quiet (fail)
        clear c0 q0 hb HZ
        have HEa := hid (HE1.out.trans (HE.out.trans (Ext.drewN wr nq)))
        have HEb := hid (HE.out.trans (Ext.drewN wr nq))
        generalize wr.drewN nq = W2 at *
        have HLIT := hid (World.ownsRow_lit (base := w.heap.size) (e := 100) (size := 2) W2 #[] 0 HEa.out.size (by simp [maxLen]) (by simp))
        have HSA := hid (((HSLD.out.ext HEa.out).ext (Ext.alloc W2 (.cells #[] 100))).take k (by omega))
        have hcap := HLE.out
        have hbl := (Array.getElem?_eq_some_iff.1 (HEb.out.obj HBB.out)).1
        have HBL := hid hbl
        clear hbl HE
        go_wp2_with (at_builtin; refine wpList_append_slN rfl (.tmp 23) (.tmp 26) 72 rfl w.heap.size 100 Tryz.underlying72 infoEnt rfl (by decide) rfl HLIT.out rfl HSA.out (ent_ones _) k (by rw [List.length_take]; omega) (by simp [maxLen]; omega) (by omega) (Nat.le_trans HEa.out.size (by simp)) ?_; intro ao3 cap3 w3 hO3 hg3 hb3; have HO3 := hid hO3; have HE3 : Hid (Ext w w3) := hid (Below.trans (HEa.out.trans (Ext.alloc _ _)) hb3); have HB3 : Hid (w3.heap[bx]? = some (.cells #[vN n, .int .i64 (f : Int)] 100 (0, 0))) := hid ((hg3.block bx (by rw [World.size_alloc]; have := HBL.out; omega) (show bx ∉ oB (.slice (some ⟨W2.heap.size, 0, none⟩) 0 0) from fun hm9 => by simp [oB, Value.ownBlock] at hm9; have := HBL.out; omega)).trans ((HEb.out.trans (Ext.alloc W2 _)).obj HBB.out)); clear hO3 hg3 hb3)
        refine ParE.wp_region_e (l := [_, _, _, _, _, _, _, _, _]) rfl (Rg.R3V w3 2 30 3 31 7 35 8 4 (fun v w' => ∃ g, v = .slice (some ⟨g, 0, none⟩) 1 1 ∧ w'.heap[g]? = some (.cells #[vN n, .int .i64 (f : Int)] 100 (0, 0)) ∧ Ext w3 w') (fun v w' => w'.ownsRow w.heap.size 100 2 v (d.take k ++ [(n, f)]).length ((d.take k ++ [(n, f)]).flatMap ecells) ∧ Ext w w') (fun v w' => w'.ownsRow w.heap.size 100 2 v (inN d n f).length ((inN d n f).flatMap ecells) ∧ Ext w w')) (ParC.VC [ParC.EQ (Value.slice ao3 k cap3), ParC.EQ (Value.agg #[vN n, .int .i64 (f : Int)]), (fun _ => True), (fun _ => True), ParC.EQ (Value.slice (some a) d.length cap), ParC.EQ (Value.int IntKind.i64 (k : Int)), (fun v => ∃ c : Option Addr × Nat × Nat, v = Value.slice c.1 c.2.1 c.2.2 ∧ SlD w v (d.drop k)), (fun _ => True), (fun _ => True)]) (by kernel_rfl) (by kernel_rfl) (Rg.R3V.start) ?_ ?_
        · refine ⟨fun L ρ w' hR hC hL hd hk => ?_, ?_⟩
          · exact Par.val_of_run rfl ⟨hR.other (by decide), hk.1⟩
          refine ⟨fun L ρ w' hR hC hL hd hk => ?_, ?_⟩
          · obtain ⟨k0, -⟩ := hk
            have e0 : ρ (.tmp 3) = Value.pointer (some ⟨bx, 0, none⟩) := k0
            clear k0
            refine Par.val_k fun K hK => ?_
            unfold Par.val
            (have hx := hR.a (hC.notyet 2 1 hL (by kernel_rfl)) (hC.notyet 3 1 hL (by kernel_rfl)) (hC.notyet 7 1 hL (by kernel_rfl)); obtain ⟨q0, q1, -⟩ := lk2 (hx.obj HB3.out); go_simp; exact hK _ _ ⟨hR.other (by decide), rfl⟩)
          refine ⟨fun L ρ w' hR hC hL hd hk => ?_, ?_⟩
          · obtain ⟨k0, -⟩ := hk
            have e0 : ρ (.tmp 29) = Value.agg #[vN n, .int .i64 (f : Int)] := k0
            clear k0
            refine Par.val_k fun K hK => ?_
            unfold Par.val
            (have n3 := hC.notyet 3 2 hL (by kernel_rfl); have n7 := hC.notyet 7 2 hL (by kernel_rfl); have n8 := hC.notyet 8 2 hL (by kernel_rfl); have hx := hR.a hL n3 n7; go_simp; exact hK _ _ ⟨Rg.R3V.zero (by decide) n3 n7 n8 ⟨_, rfl, heap_alloc_new _ _, hx.trans (Ext.alloc _ _)⟩, trivial⟩)
          refine ⟨fun L ρ w' hR hC hL hd hk => ?_, ?_⟩
          · obtain ⟨k0, k1, -⟩ := hk
            have e0 : ρ (.tmp 28) = Value.slice ao3 k cap3 := k0
            have e1 : (fun _ => True) (ρ (.tmp 30))  := k1
            clear k0 k1
            refine Par.val_k fun K hK => ?_
            unfold Par.val
            (have n7 := hC.notyet 7 3 hL (by kernel_rfl); have n8 := hC.notyet 8 3 hL (by kernel_rfl); have h2 := hC.before 2 (i := 3) rfl hd (by kernel_rfl); obtain ⟨g, hg1, hg2, hx⟩ := hR.s h2 hL n7; have e1' : ρ (.tmp 30) = .slice (some ⟨g, 0, none⟩) 1 1 := hg1; have ho : w'.ownsRow w.heap.size 100 2 (.slice ao3 k cap3) (d.take k).length ((d.take k).flatMap ecells) := (by have := hx.owns HO3.out; rw [List.length_take, Nat.min_eq_left (by omega)]; simpa using this); obtain ⟨a2, c2, w2, r1, r2, r3⟩ := run_app_ent w.heap.size 72 ho (ent_at (z := (n, f)) hg2) (by simp; omega) (Nat.le_trans HE3.out.size hx.size); rw [← e0, ← e1'] at r1; exact Par.val_append r1 (hK _ _ ⟨Rg.R3V.one (by decide) n7 n8 ⟨r2, Below.trans (HE3.out.trans hx) r3⟩, trivial⟩))
          refine ⟨fun L ρ w' hR hC hL hd hk => ?_, ?_⟩
          · exact Par.val_of_run rfl ⟨hR.other (by decide), hk.1⟩
          refine ⟨fun L ρ w' hR hC hL hd hk => ?_, ?_⟩
          · exact Par.val_of_run rfl ⟨hR.other (by decide), hk.1⟩
          refine ⟨fun L ρ w' hR hC hL hd hk => ?_, ?_⟩
          · obtain ⟨k0, k1, -⟩ := hk
            have e0 : ρ (.tmp 32) = Value.slice (some a) d.length cap := k0
            have e1 : ρ (.tmp 33) = Value.int IntKind.i64 (k : Int) := k1
            clear k0 k1
            refine Par.val_k fun K hK => ?_
            unfold Par.val
            (go_simp; exact hK _ _ ⟨hR.other (by decide), ⟨(_, _, _), rfl, HSLD.out.drop k (by omega) _ (by first | rfl | (rw [if_neg (by omega)]; rfl) | simp) _ _ (by omega) (by omega)⟩⟩)
          refine ⟨fun L ρ w' hR hC hL hd hk => ?_, ?_⟩
          · obtain ⟨k0, k1, -⟩ := hk
            have e0 : (fun _ => True) (ρ (.tmp 31))  := k0
            have e1 : (fun v => ∃ c : Option Addr × Nat × Nat, v = Value.slice c.1 c.2.1 c.2.2 ∧ SlD w v (d.drop k)) (ρ (.tmp 34))  := k1
            clear k0 k1
            refine Par.val_k fun K hK => ?_
            unfold Par.val
            (have n8 := hC.notyet 8 7 hL (by kernel_rfl); have h3 := hC.before 3 (i := 7) rfl hd (by kernel_rfl); obtain ⟨o1, hx⟩ := hR.b h3 hL; obtain ⟨c, -, hsl⟩ := e1; obtain ⟨a2, c2, w2, r1, r2, r3⟩ := run_app_ent w.heap.size 72 o1 (hsl.ext hx) (by simp; omega) hx.size; have hin : (d.take k ++ [(n, f)]) ++ d.drop k = inN d n f := (by unfold inN; rw [HT.out.1, HT.out.2]; simp); rw [hin] at r1 r2; exact Par.val_append r1 (hK _ _ ⟨Rg.R3V.two (by decide) n8 ⟨r2, Below.trans hx r3⟩, trivial⟩))
          refine ⟨fun L ρ w' hR hC hL hd hk => ?_, ?_⟩
          · obtain ⟨k0, -⟩ := hk
            have e0 : (fun _ => True) (ρ (.tmp 35))  := k0
            clear k0
            refine Par.val_k fun K hK => ?_
            unfold Par.val
            (have h7 := hC.before 7 (i := 8) rfl hd (by kernel_rfl); go_simp; exact hK _ _ ⟨hR.three (by decide) h7 rfl, trivial⟩)
          trivial
        intro a' w' inv hR
        have q28 : a'.tmps.getD 28 undef = Value.slice ao3 k cap3 := inv.done 0 _ 28 rfl rfl rfl
        have q29 : a'.tmps.getD 29 undef = Value.agg #[vN n, .int .i64 (f : Int)] := inv.done 1 _ 29 rfl rfl rfl
        have q30 : (fun _ => True) (a'.tmps.getD 30 undef)  := inv.done 2 _ 30 rfl rfl rfl
        have q31 : (fun _ => True) (a'.tmps.getD 31 undef)  := inv.done 3 _ 31 rfl rfl rfl
        have q32 : a'.tmps.getD 32 undef = Value.slice (some a) d.length cap := inv.done 4 _ 32 rfl rfl rfl
        have q33 : a'.tmps.getD 33 undef = Value.int IntKind.i64 (k : Int) := inv.done 5 _ 33 rfl rfl rfl
        have q34 : (fun v => ∃ c : Option Addr × Nat × Nat, v = Value.slice c.1 c.2.1 c.2.2 ∧ SlD w v (d.drop k)) (a'.tmps.getD 34 undef)  := inv.done 6 _ 34 rfl rfl rfl
        have q35 : (fun _ => True) (a'.tmps.getD 35 undef)  := inv.done 7 _ 35 rfl rfl rfl
        have q4 : (fun _ => True) (a'.tmps.getD 4 undef)  := inv.done 8 _ 4 rfl rfl rfl
        clear inv
        simp only [List.filterMap_cons, List.filterMap_nil, Par.putAll, Act.put, List.setIfInBounds_toArray, List.set_cons_succ, List.set_cons_zero, q28, q29, q32, q33]
        clear q28 q29 q32 q33
        obtain ⟨o9, x9⟩ := hR.y rfl; have O9 : Hid (w'.ownsRow w.heap.size 100 2 (a'.tmps.getD 4 undef) (inN d n f).length ((inN d n f).flatMap ecells)) := hid o9; have X9 := hid x9; clear o9 x9 hR
        generalize a'.tmps.getD 30 undef = u30 at *
        generalize a'.tmps.getD 31 undef = u31 at *
        generalize a'.tmps.getD 34 undef = u34 at *
        generalize a'.tmps.getD 35 undef = u35 at *
        generalize a'.tmps.getD 4 undef = u4 at *
        try clear a'
        go_wp2
        go_ret
        exact ⟨⟨_, rfl, O9.out⟩, X9.out⟩
    · obtain rfl : k = d.length := by omega
      have HT : Hid (d.takeWhile (fun z => decide (z.1 < n)) = d.take d.length ∧ d.dropWhile (fun z => decide (z.1 < n)) = d.drop d.length) := hid (tw_at HK.out (fun j hj => HL.out j (by omega) hj) (fun hl => absurd hl (by omega)))
      go_wp2
      go_quiet (fail)
      have HEa := hid (HE1.out.trans (HE.out.trans (Ext.drewN wr nq)))
      have HEb := hid (HE.out.trans (Ext.drewN wr nq))
      generalize wr.drewN nq = W2 at *
      have HLIT := hid (World.ownsRow_lit (base := w.heap.size) (e := 100) (size := 2) W2 #[] 0 HEa.out.size (by simp [maxLen]) (by simp))
      have HSA := hid (((HSLD.out.ext HEa.out).ext (Ext.alloc W2 (.cells #[] 100))).take d.length (by omega))
      have hcap := HLE.out
      have hbl := (Array.getElem?_eq_some_iff.1 (HEb.out.obj HBB.out)).1
      have HBL := hid hbl
      clear hbl HE
      go_wp2_with (at_builtin; refine wpList_append_slN rfl (.tmp 23) (.tmp 26) 72 rfl w.heap.size 100 Tryz.underlying72 infoEnt rfl (by decide) rfl HLIT.out rfl HSA.out (ent_ones _) d.length (by rw [List.length_take]; omega) (by simp [maxLen]; omega) (by omega) (Nat.le_trans HEa.out.size (by simp)) ?_; intro ao3 cap3 w3 hO3 hg3 hb3; have HO3 := hid hO3; have HE3 : Hid (Ext w w3) := hid (Below.trans (HEa.out.trans (Ext.alloc _ _)) hb3); have HB3 : Hid (w3.heap[bx]? = some (.cells #[vN n, .int .i64 (f : Int)] 100 (0, 0))) := hid ((hg3.block bx (by rw [World.size_alloc]; have := HBL.out; omega) (show bx ∉ oB (.slice (some ⟨W2.heap.size, 0, none⟩) 0 0) from fun hm9 => by simp [oB, Value.ownBlock] at hm9; have := HBL.out; omega)).trans ((HEb.out.trans (Ext.alloc W2 _)).obj HBB.out)); clear hO3 hg3 hb3)
      refine ParE.wp_region_e (l := [_, _, _, _, _, _, _, _, _]) rfl (Rg.R3V w3 2 30 3 31 7 35 8 4 (fun v w' => ∃ g, v = .slice (some ⟨g, 0, none⟩) 1 1 ∧ w'.heap[g]? = some (.cells #[vN n, .int .i64 (f : Int)] 100 (0, 0)) ∧ Ext w3 w') (fun v w' => w'.ownsRow w.heap.size 100 2 v (d.take d.length ++ [(n, f)]).length ((d.take d.length ++ [(n, f)]).flatMap ecells) ∧ Ext w w') (fun v w' => w'.ownsRow w.heap.size 100 2 v (inN d n f).length ((inN d n f).flatMap ecells) ∧ Ext w w')) (ParC.VC [ParC.EQ (Value.slice ao3 d.length cap3), ParC.EQ (Value.agg #[vN n, .int .i64 (f : Int)]), (fun _ => True), (fun _ => True), ParC.EQ (Value.slice ao d.length cap), ParC.EQ (Value.int IntKind.i64 (d.length : Int)), (fun v => ∃ c : Option Addr × Nat × Nat, v = Value.slice c.1 c.2.1 c.2.2 ∧ SlD w v (d.drop d.length)), (fun _ => True), (fun _ => True)]) (by kernel_rfl) (by kernel_rfl) (Rg.R3V.start) ?_ ?_
      · refine ⟨fun L ρ w' hR hC hL hd hk => ?_, ?_⟩
        · exact Par.val_of_run rfl ⟨hR.other (by decide), hk.1⟩
        refine ⟨fun L ρ w' hR hC hL hd hk => ?_, ?_⟩
        · obtain ⟨k0, -⟩ := hk
          have e0 : ρ (.tmp 3) = Value.pointer (some ⟨bx, 0, none⟩) := k0
          clear k0
          refine Par.val_k fun K hK => ?_
          unfold Par.val
          (have hx := hR.a (hC.notyet 2 1 hL (by kernel_rfl)) (hC.notyet 3 1 hL (by kernel_rfl)) (hC.notyet 7 1 hL (by kernel_rfl)); obtain ⟨q0, q1, -⟩ := lk2 (hx.obj HB3.out); go_simp; exact hK _ _ ⟨hR.other (by decide), rfl⟩)
        refine ⟨fun L ρ w' hR hC hL hd hk => ?_, ?_⟩
        · obtain ⟨k0, -⟩ := hk
          have e0 : ρ (.tmp 29) = Value.agg #[vN n, .int .i64 (f : Int)] := k0
          clear k0
          refine Par.val_k fun K hK => ?_
          unfold Par.val
          (have n3 := hC.notyet 3 2 hL (by kernel_rfl); have n7 := hC.notyet 7 2 hL (by kernel_rfl); have n8 := hC.notyet 8 2 hL (by kernel_rfl); have hx := hR.a hL n3 n7; go_simp; exact hK _ _ ⟨Rg.R3V.zero (by decide) n3 n7 n8 ⟨_, rfl, heap_alloc_new _ _, hx.trans (Ext.alloc _ _)⟩, trivial⟩)
        refine ⟨fun L ρ w' hR hC hL hd hk => ?_, ?_⟩
        · obtain ⟨k0, k1, -⟩ := hk
          have e0 : ρ (.tmp 28) = Value.slice ao3 d.length cap3 := k0
          have e1 : (fun _ => True) (ρ (.tmp 30))  := k1
          clear k0 k1
          refine Par.val_k fun K hK => ?_
          unfold Par.val
          (have n7 := hC.notyet 7 3 hL (by kernel_rfl); have n8 := hC.notyet 8 3 hL (by kernel_rfl); have h2 := hC.before 2 (i := 3) rfl hd (by kernel_rfl); obtain ⟨g, hg1, hg2, hx⟩ := hR.s h2 hL n7; have e1' : ρ (.tmp 30) = .slice (some ⟨g, 0, none⟩) 1 1 := hg1; have ho : w'.ownsRow w.heap.size 100 2 (.slice ao3 d.length cap3) (d.take d.length).length ((d.take d.length).flatMap ecells) := (by have := hx.owns HO3.out; rw [List.length_take, Nat.min_eq_left (by omega)]; simpa using this); obtain ⟨a2, c2, w2, r1, r2, r3⟩ := run_app_ent w.heap.size 72 ho (ent_at (z := (n, f)) hg2) (by simp; omega) (Nat.le_trans HE3.out.size hx.size); rw [← e0, ← e1'] at r1; exact Par.val_append r1 (hK _ _ ⟨Rg.R3V.one (by decide) n7 n8 ⟨r2, Below.trans (HE3.out.trans hx) r3⟩, trivial⟩))
        refine ⟨fun L ρ w' hR hC hL hd hk => ?_, ?_⟩
        · exact Par.val_of_run rfl ⟨hR.other (by decide), hk.1⟩
        refine ⟨fun L ρ w' hR hC hL hd hk => ?_, ?_⟩
        · exact Par.val_of_run rfl ⟨hR.other (by decide), hk.1⟩
        refine ⟨fun L ρ w' hR hC hL hd hk => ?_, ?_⟩
        · obtain ⟨k0, k1, -⟩ := hk
          have e0 : ρ (.tmp 32) = Value.slice ao d.length cap := k0
          have e1 : ρ (.tmp 33) = Value.int IntKind.i64 (d.length : Int) := k1
          clear k0 k1
          refine Par.val_k fun K hK => ?_
          unfold Par.val
          (go_simp; exact hK _ _ ⟨hR.other (by decide), ⟨(_, _, _), rfl, HSLD.out.drop d.length (by omega) _ (by first | rfl | (rw [if_neg (by omega)]; rfl) | simp) _ _ (by omega) (by omega)⟩⟩)
        refine ⟨fun L ρ w' hR hC hL hd hk => ?_, ?_⟩
        · obtain ⟨k0, k1, -⟩ := hk
          have e0 : (fun _ => True) (ρ (.tmp 31))  := k0
          have e1 : (fun v => ∃ c : Option Addr × Nat × Nat, v = Value.slice c.1 c.2.1 c.2.2 ∧ SlD w v (d.drop d.length)) (ρ (.tmp 34))  := k1
          clear k0 k1
          refine Par.val_k fun K hK => ?_
          unfold Par.val
          (have n8 := hC.notyet 8 7 hL (by kernel_rfl); have h3 := hC.before 3 (i := 7) rfl hd (by kernel_rfl); obtain ⟨o1, hx⟩ := hR.b h3 hL; obtain ⟨c, -, hsl⟩ := e1; obtain ⟨a2, c2, w2, r1, r2, r3⟩ := run_app_ent w.heap.size 72 o1 (hsl.ext hx) (by simp; omega) hx.size; have hin : (d.take d.length ++ [(n, f)]) ++ d.drop d.length = inN d n f := (by unfold inN; rw [HT.out.1, HT.out.2]; simp); rw [hin] at r1 r2; exact Par.val_append r1 (hK _ _ ⟨Rg.R3V.two (by decide) n8 ⟨r2, Below.trans hx r3⟩, trivial⟩))
        refine ⟨fun L ρ w' hR hC hL hd hk => ?_, ?_⟩
        · obtain ⟨k0, -⟩ := hk
          have e0 : (fun _ => True) (ρ (.tmp 35))  := k0
          clear k0
          refine Par.val_k fun K hK => ?_
          unfold Par.val
          (have h7 := hC.before 7 (i := 8) rfl hd (by kernel_rfl); go_simp; exact hK _ _ ⟨hR.three (by decide) h7 rfl, trivial⟩)
        trivial
      intro a' w' inv hR
      have q28 : a'.tmps.getD 28 undef = Value.slice ao3 d.length cap3 := inv.done 0 _ 28 rfl rfl rfl
      have q29 : a'.tmps.getD 29 undef = Value.agg #[vN n, .int .i64 (f : Int)] := inv.done 1 _ 29 rfl rfl rfl
      have q30 : (fun _ => True) (a'.tmps.getD 30 undef)  := inv.done 2 _ 30 rfl rfl rfl
      have q31 : (fun _ => True) (a'.tmps.getD 31 undef)  := inv.done 3 _ 31 rfl rfl rfl
      have q32 : a'.tmps.getD 32 undef = Value.slice ao d.length cap := inv.done 4 _ 32 rfl rfl rfl
      have q33 : a'.tmps.getD 33 undef = Value.int IntKind.i64 (d.length : Int) := inv.done 5 _ 33 rfl rfl rfl
      have q34 : (fun v => ∃ c : Option Addr × Nat × Nat, v = Value.slice c.1 c.2.1 c.2.2 ∧ SlD w v (d.drop d.length)) (a'.tmps.getD 34 undef)  := inv.done 6 _ 34 rfl rfl rfl
      have q35 : (fun _ => True) (a'.tmps.getD 35 undef)  := inv.done 7 _ 35 rfl rfl rfl
      have q4 : (fun _ => True) (a'.tmps.getD 4 undef)  := inv.done 8 _ 4 rfl rfl rfl
      clear inv
      simp only [List.filterMap_cons, List.filterMap_nil, Par.putAll, Act.put, List.setIfInBounds_toArray, List.set_cons_succ, List.set_cons_zero, q28, q29, q32, q33]
      clear q28 q29 q32 q33
      obtain ⟨o9, x9⟩ := hR.y rfl; have O9 : Hid (w'.ownsRow w.heap.size 100 2 (a'.tmps.getD 4 undef) (inN d n f).length ((inN d n f).flatMap ecells)) := hid o9; have X9 := hid x9; clear o9 x9 hR
      generalize a'.tmps.getD 30 undef = u30 at *
      generalize a'.tmps.getD 31 undef = u31 at *
      generalize a'.tmps.getD 34 undef = u34 at *
      generalize a'.tmps.getD 35 undef = u35 at *
      generalize a'.tmps.getD 4 undef = u4 at *
      try clear a'
      go_wp2
      go_ret
      exact ⟨⟨_, rfl, O9.out⟩, X9.out⟩
end Go.Proofs.YtijpokajhjhllaaGreatDoor

set_option linter.unusedSimpArgs false
set_option linter.unusedVariables false
namespace Go.Proofs.YtijpokajhjhllaaGreatDoor
open Go Go.RowKit Go.Tum Go.ChangeMaps
open Go.ParB (upd Lof)
open Go.ParE (putS slotsR slots Closed)

theorem findD_neg' {s : PS} {n : Nm} : decide (findD s.dir n < 0) = decide (look s.dir n = none) := by
  unfold findD
  cases look s.dir n with
  | none => rfl
  | some f => simp
set_option maxRecDepth 100000 in
set_option maxHeartbeats 1000000 in
theorem rrename_any {B : Nat} {w : World} {r : Nat} {x : RX} {s : PS} (n m' : Nm) (hnm : m'.length ≤ maxLen) (h : RD B w r x s) (hB : B ≤ w.heap.size) (hw : WF s) (hl : s.opn.length ≤ 100000) :
    Calls Tryz.prog 45 #[pv r, vN n, vN m'] w fun e w' => RDo B w r x (renP s n m') e w' := by
  have H := hid h
  have HB := hid hB
  have HL := hid hl
  have HFU := hid hw.fu
  have HDL := hid hw.dir.le
  have HNM := hid hnm
  have hdo := doP_can s (renE s n m') (fun s => { s with opn := s.opn ++ [⟨n, m', look s.dir n⟩] })
  have hcd := canP_same s (renE s n m')
  have hcn := fun h => canP_ne s (e := renE s n m') h
  have HDO : Hid (renP s n m' = if (canP s (renE s n m')).1 = 0 then (0, ({ (canP s (renE s n m')).2 with opn := (canP s (renE s n m')).2.opn ++ [⟨n, m', look (canP s (renE s n m')).2.dir n⟩] } : PS)) else canP s (renE s n m')) := hid hdo
  have hfn := findD_neg' (s := s) (n := n)
  obtain ⟨me, hme⟩ : ∃ e, renE s n m' = e := ⟨_, rfl⟩
  rw [hme] at HDO hcd hcn
  obtain ⟨C, hC⟩ : ∃ C, canP s me = C := ⟨_, rfl⟩
  rw [hC] at HDO hcd hcn
  have HCC := hid hC
  obtain ⟨er, s1⟩ := C
  dsimp only at HDO hcd hcn
  have HCD := hid hcd
  have HCN := hid hcn
  have HME := hid hme
  clear h hB hl hw hdo hme hC hcd hcn hnm
  go_enter Tryz.func45, Tryz.ntmps45
  go_wp2_with fail
  refine (rfind_any n H.out).mono ?_
  rintro e w1 ⟨rfl, hE⟩
  have HE1 := hid hE
  have H1 := hid (H.out.ext hE)
  obtain ⟨fd, hfd⟩ : ∃ f, findD s.dir n = f := ⟨_, rfl⟩
  have HFD := hid hfd
  rw [hfd] at hfn ⊢
  clear hfd hE
  by_cases hlk : look s.dir n = none
  · have hneg : decide (fd < 0) = true := by rw [hfn, decide_eq_true hlk]
    obtain rfl : me = 5 := by rw [← HME.out]; unfold renE; rw [if_pos hlk]
    clear hlk hfn
    go_wp2_with fail
    refine (show Calls Tryz.prog 62 #[pv r, .int .i64 (5 : Int)] _ fun e w' => CanP B _ r x (er, s1) e w' from by have := rcan_any 5 H1.out HFU.out; rw [HCC.out] at this; exact this).mono ?_
    rintro e w2 ⟨rfl, h1, f1⟩
    dsimp only at h1 ⊢
    have H2 := hid h1
    have F2 : Hid (Fr [r] w w2) := hid ((Ext.fr HE1.out).trans f1)
    clear h1 f1
    have her : er ≠ 0 := HCN.out (by decide)
    have be : ((er : Int) == 0) = false := by simp; omega
    have HD2 : Hid (renP s n m' = (er, s1)) := hid (by rw [HDO.out, if_neg her])
    clear her
    go_wp2
    go_ret
    unfold RDo
    rw [HD2.out]
    exact ⟨rfl, ⟨x, H2.out, Nw.refl _ _⟩, F2.out.mono (by simp)⟩
  · have hneg : decide (fd < 0) = false := by rw [hfn, decide_eq_false hlk]
    have HLK := hid hlk
    clear hlk hfn
    go_wp2_with fail
    refine (rmay_any m' w1 HNM.out).mono ?_
    rintro e w1b ⟨rfl, hE⟩
    replace HE1 := hid (HE1.out.trans hE)
    replace H1 := hid (H1.out.ext hE)
    clear hE
    by_cases hok : nmOk m' = false
    · rw [hok]
      obtain rfl : me = 1 := by rw [← HME.out]; unfold renE; rw [if_neg HLK.out, if_pos hok]
      clear hok
      go_wp2_with fail
      refine (show Calls Tryz.prog 62 #[pv r, .int .i64 (1 : Int)] _ fun e w' => CanP B _ r x (er, s1) e w' from by have := rcan_any 1 H1.out HFU.out; rw [HCC.out] at this; exact this).mono ?_
      rintro e w2 ⟨rfl, h1, f1⟩
      dsimp only at h1 ⊢
      have H2 := hid h1
      have F2 : Hid (Fr [r] w w2) := hid ((Ext.fr HE1.out).trans f1)
      clear h1 f1
      have her : er ≠ 0 := HCN.out (by decide)
      have be : ((er : Int) == 0) = false := by simp; omega
      have HD2 : Hid (renP s n m' = (er, s1)) := hid (by rw [HDO.out, if_neg her])
      clear her
      go_wp2
      go_ret
      unfold RDo
      rw [HD2.out]
      exact ⟨rfl, ⟨x, H2.out, Nw.refl _ _⟩, F2.out.mono (by simp)⟩
    · obtain rfl : me = 0 := by rw [← HME.out]; unfold renE; rw [if_neg HLK.out, if_neg hok]
      have hok2 : nmOk m' = true := by simpa using hok
      rw [hok2]
      clear hok hok2
      go_wp2_with fail
      refine (show Calls Tryz.prog 62 #[pv r, .int .i64 (0 : Int)] _ fun e w' => CanP B _ r x (er, s1) e w' from by have := rcan_any 0 H1.out HFU.out; rw [HCC.out] at this; exact this).mono ?_
      rintro e w2 ⟨rfl, h1, f1⟩
      dsimp only at h1 ⊢
      have H2 := hid h1
      have F2 : Hid (Fr [r] w w2) := hid ((Ext.fr HE1.out).trans f1)
      clear h1 f1
      by_cases her : er = 0
      case neg =>
        have be : ((er : Int) == 0) = false := by simp; omega
        have HD2 : Hid (renP s n m' = (er, s1)) := hid (by rw [HDO.out, if_neg her])
        clear her
        go_wp2
        go_ret
        unfold RDo
        rw [HD2.out]
        exact ⟨rfl, ⟨x, H2.out, Nw.refl _ _⟩, F2.out.mono (by simp)⟩
      subst her
      have hfd2 : ∃ f : Nat, look s1.dir n = some f ∧ fd = (f : Int) := by
        have h1 := HFD.out
        have h2 := HLK.out
        unfold findD at h1
        rw [HCD.out.1]
        cases hlo : look s.dir n with
        | none => exact absurd hlo h2
        | some f => rw [hlo] at h1; exact ⟨f, rfl, h1.symm⟩
      obtain ⟨f, hf1, rfl⟩ := hfd2
      have HD2 : Hid (renP s n m' = (0, ({ s1 with opn := s1.opn ++ [⟨n, m', some f⟩] } : PS))) := hid (by rw [HDO.out, if_pos rfl, hf1])
      clear hf1
      have h3 := H2.out.ext (Ext.alloc w2 (.cells #[] 72))
      obtain ⟨⟨-, -, c2, -, -⟩, -⟩ := lk5 h3.hd
      have hsl := Sl.of_owns h3.dr
      obtain ⟨m, hm⟩ : ∃ m, x.dv.length = m := ⟨_, rfl⟩
      have HM := hid hm
      have hdn : m ≤ 100001 := by have h5 := H2.out.dn; have h6 := congrArg List.length HCD.out.2.1; have h7 := HL.out; omega
      have hdr := h3.dr
      rw [hm] at hsl hdr
      obtain ⟨vo, vc, hvd⟩ := row_slN hdr
      rw [hvd] at c2 hsl
      have HSL := hid hsl
      have HONE := hid H2.out.dv_one
      have HLIT := hid (World.ownsRow_lit (base := w2.heap.size) (e := 72) (size := 1) w2 #[] 0 (Nat.le_refl _) (by simp [maxLen]) (by simp))
      clear h3 hsl hvd hdr hm
      go_wp2_with (at_builtin; refine wpList_append_slN rfl (.tmp 23) (.tmp 27) 63 rfl w2.heap.size 72 Tryz.underlying63 infoDir rfl (by decide) rfl HLIT.out rfl HSL.out HONE.out m (by omega) (by simp [maxLen]; omega) (by omega) (by simp) ?_; intro ao3 cap3 w3 hO3 hg3 hb3; have HO3 := hid hO3; have HE3 : Hid (Ext w2 w3) := hid (Below.trans (Ext.alloc _ _) hb3); clear hO3 hg3 hb3)
      have HDN := hid hdn
      clear hdn c2
      have H3 := hid (H2.out.ext HE3.out)
      refine (rnow_any H3.out).mono ?_
      rintro e w4 ⟨⟨v4, rfl, ho4⟩, hE4⟩
      have HE4 := hid (HE3.out.trans hE4)
      have hrow : RowsOf w4 2 v4 ecells s1.dir := ⟨fun _ _ => rfl, Sl.of_owns ho4⟩
      have HROW := hid hrow
      obtain ⟨o4, n4, c4, rfl⟩ := row_slice ho4
      have HO4 := hid (hE4.owns HO3.out)
      have HDLL : Hid (s1.dir.length ≤ 100) := hid (by have h6 := congrArg List.length HCD.out.1; have h7 := HDL.out; omega)
      clear ho4 hE4 hrow
      go_wp2_with fail
      refine (rwithout_any _ _ s1.dir n HROW.out (by have := HDLL.out; omega)).mono ?_
      rintro e w41 ⟨⟨uw41, rfl, how41⟩, hEw41⟩
      have HEw41 := hid (HE4.out.trans hEw41)
      have HOw41 := hid (hEw41.owns HO4.out)
      have hrow : RowsOf w41 2 uw41 ecells (noN s1.dir n) := ⟨fun _ _ => rfl, Sl.of_owns how41⟩
      have HRw41 := hid hrow
      obtain ⟨ow41, nw41, cw41, rfl⟩ := row_slice how41
      clear how41 hEw41 hrow
      go_wp2_with fail
      refine (rwithout_any _ _ (noN s1.dir n) m' HRw41.out (by have := HDLL.out; have h1 := List.length_filter_le (fun p : Nm × Nat => p.1 != n) s1.dir; unfold noN; omega)).mono ?_
      rintro e w42 ⟨⟨uw42, rfl, how42⟩, hEw42⟩
      have HEw42 := hid (HEw41.out.trans hEw42)
      have HOw42 := hid (hEw42.owns HOw41.out)
      have hrow : RowsOf w42 2 uw42 ecells (noN (noN s1.dir n) m') := ⟨fun _ _ => rfl, Sl.of_owns how42⟩
      have HRw42 := hid hrow
      obtain ⟨ow42, nw42, cw42, rfl⟩ := row_slice how42
      clear how42 hEw42 hrow
      go_wp2_with fail
      refine (rwith_any _ _ (noN (noN s1.dir n) m') m' f HRw42.out (by have := HDLL.out; have h1 := List.length_filter_le (fun p : Nm × Nat => p.1 != n) s1.dir; have h2 := List.length_filter_le (fun p : Nm × Nat => p.1 != m') (noN s1.dir n); show (noN (noN s1.dir n) m').length ≤ 100; unfold noN at *; omega)).mono ?_
      rintro e w5 ⟨⟨u5, rfl, ho5⟩, hE5⟩
      have HE5 := hid (HEw42.out.trans hE5)
      have HO5 := hid (hE5.owns HOw42.out)
      have HS2 := hid (Nat.le_trans HB.out F2.out.size)
      have HU5 := hid (owns_mono ho5 (Nat.le_trans HS2.out HEw42.out.size))
      obtain ⟨o5, n5, c5, rfl⟩ := row_slice ho5
      have HT := hid (Sl.of_owns (World.ownsRow_lit (base := w5.heap.size) (e := 72) (size := 1) w5 #[.slice o5 n5 c5] 1 (Nat.le_refl _) (by simp [maxLen]) (by simp)))
      have hdn := HDN.out
      clear ho5 hE5
      go_wp2_with (at_builtin; refine wpList_append_slN rfl (.tmp 28) (.tmp 39) 63 rfl w2.heap.size 72 Tryz.underlying63 infoDir rfl (by decide) rfl ((Ext.alloc w5 _).owns HO5.out) rfl HT.out (by intro y hy; simp at hy; subst hy; rfl) (m + 1) (by omega) (by simp [maxLen]; omega) (by omega) (Nat.le_trans HE5.out.size (by simp)) ?_; intro ao6 cap6 w6 hO6 hg6 hb6; have HO6 := hid hO6; have HE6 : Hid (Ext w2 w6) := hid (Below.trans (HE5.out.trans (Ext.alloc _ _)) hb6); have HU6 := hid (ownsRow_fr2 ((Ext.alloc w5 _).owns HU5.out) hg6 (own_blk ((Ext.alloc w5 _).owns HO5.out) (by decide))); have h6 := H2.out.ext HE6.out; have H6 := hid h6; obtain ⟨⟨-, -, c2, -, -⟩, ff⟩ := lk5 h6.hd; have f2 := ff 2; clear hO6 hg6 hb6 h6 ff)
      go_ret
      unfold RDo
      rw [HD2.out]
      refine ⟨rfl, ⟨_, RD.more H6.out ⟨n, m', some f⟩ (.slice o5 n5 c5) _ HU6.out ?_, Nw.refl _ _⟩, ?_⟩
      · have := owns_mono HO6.out HS2.out
        rw [HM.out]
        simpa using this
      · exact (F2.out.trans ((Ext.fr HE6.out).trans (fr_setCell _ _ _ (by simp)))).mono (by simp)
end Go.Proofs.YtijpokajhjhllaaGreatDoor

set_option linter.unusedSimpArgs false
set_option linter.unusedVariables false
namespace Go.Proofs.YtijpokajhjhllaaGreatDoor
open Go Go.RowKit Go.Tum Go.ChangeMaps
open Go.ParB (upd Lof)
open Go.ParE (putS slotsR slots Closed)

theorem run_app_dirs (base ty : Nat) {w : World} {v u : Value} {n m : Nat} {xs ys : List Value} (hown : w.ownsRow base 72 1 v n xs) (hsl : Sl w 1 u m ys) (h1 : ∀ y ∈ ys, y.oneCell' = true) (hb : n + m ≤ 1000000) (hbase : base ≤ w.heap.size) :
    ∃ v' w', (Builtin.append_ #[63, 63] ty #[v, u]).run Tryz.prog w = .ok v' w' ∧ w'.ownsRow base 72 1 v' (n + m) (xs ++ ys) ∧ Fr (oB v) w w' ∧ Below base w w' := by
  obtain ⟨ao, cap, w', k1, k2, k3, k4⟩ := run_append_sl (P := Tryz.prog) base 63 ty 72 Tryz.underlying63 infoDir rfl (by decide) hown hsl h1 (by simp [maxLen]; omega) (by omega) hbase
  exact ⟨_, w', k1, k2, fr_grown k3 k4, k4⟩
theorem infoFil : (Tryz.prog.info? 98).map (fun i => (i.zero, i.size, i.bytes)) = some (some (.agg #[.slice none 0 0, .int .i64 0]), 2, 32) := by kernel_rfl
theorem RD.fv_one {B : Nat} {w : World} {r : Nat} {x : RX} {s : PS} (h : RD B w r x s) : ∀ y ∈ (s.files.zip x.fv).flatMap rfcells, y.oneCell' = true := by
  intro y hy
  obtain ⟨⟨p, v⟩, hz, hy⟩ := List.mem_flatMap.1 hy
  simp at hy
  rcases hy with rfl | rfl
  · obtain ⟨i, hi, e⟩ := List.mem_iff_getElem.1 hz
    have hi2 : i < s.files.length := by simp at hi; omega
    have hi3 : i < x.fv.length := by simp at hi; omega
    have h1 := h.fb i hi2
    have e2 : y = x.fv[i] := by simp at e; exact e.2.symm
    rw [List.getD_eq_getElem?_getD, List.getElem?_eq_getElem hi3] at h1
    obtain ⟨o, n, c, q⟩ := row_slice h1
    rw [e2]
    simp only [Option.getD_some] at q
    rw [q]; rfl
  · rfl
/-- A file more, without bytes: the row of files, new, is stored. -/
theorem RD.file {B : Nat} {w : World} {r : Nat} {x : RX} {s : PS} (h : RD B w r x s) (vf : Value) (hf : w.ownsRow B 98 2 vf (s.files.length + 1) ((s.files.zip x.fv).flatMap rfcells ++ [nilV, .int .i64 0])) :
    RD B (w.setCell ⟨r, 1, none⟩ vf) r ⟨vf, x.vd, x.fv ++ [nilV], x.dv⟩ { s with files := s.files ++ [([], 0)] } := by
  have hF : Fr [r] w (w.setCell ⟨r, 1, none⟩ vf) := fr_setCell _ _ _ (by simp)
  have hs : ∀ e, e ≠ 65 → ∀ q ∈ [r], ∃ o2, w.heap[q]? = some o2 ∧ ∀ cs, o2 ≠ .cells cs e (0, 0) := by
    intro e he q hq
    simp at hq; subst hq
    exact ⟨_, h.hd, fun cs hc => he (by simp at hc; exact hc.2.symm)⟩
  refine ⟨block_set5 h.hd 1 _, by simp [h.fn], ?_, fun i hi => ?_, h.dn, ownsRow_fr2 h.dr hF (hs _ (by decide)), fun k hk => ownsRow_fr2 (h.dd k hk) hF (hs _ (by decide)), h.lo⟩
  · show World.ownsRow _ B _ 2 vf (s.files ++ [([], 0)]).length (((s.files ++ [([], 0)]).zip (x.fv ++ [nilV])).flatMap rfcells)
    rw [List.length_append, List.zip_append h.fn.symm, List.flatMap_append]
    exact ownsRow_fr2 (show World.ownsRow _ _ _ _ _ (s.files.length + 1) _ from by simpa [rfcells] using hf) hF (hs _ (by decide))
  · show Own _ B _ ((x.fv ++ [nilV]).getD i nilV) ((s.files ++ [([], 0)])[i]'hi).1
    by_cases hl : i < s.files.length
    · have e : (x.fv ++ [nilV]).getD i nilV = x.fv.getD i nilV := by
        rw [List.getD_eq_getElem?_getD, List.getD_eq_getElem?_getD, List.getElem?_append_left (by rw [h.fn]; exact hl)]
      rw [e, List.getElem_append_left hl]
      exact ownsRow_fr2 (h.fb i hl) hF (hs _ (by decide))
    · have hi2 : i = s.files.length := by simp at hi; omega
      subst hi2
      have e : (x.fv ++ [nilV]).getD s.files.length nilV = nilV := by
        rw [← h.fn, List.getD_eq_getElem?_getD, List.getElem?_append_right (Nat.le_refl _)]; simp
      rw [e, List.getElem_append_right (Nat.le_refl _)]
      simp
      exact Own.nil _ _ _
theorem appC_new {d : Dir} {l : List Nat} (h : DOk d l) {n : Nm} (hn : look d n = none) (f : Nat) : appC d ⟨[], n, some f⟩ = inN d n f := by
  unfold appC
  simp only
  rw [noN_nil h, noN_same hn]
/-- The stages of 'd.Dirs = append(append([][]Entry{}, d.Dirs...), with(d.now(), x))'. -/
def CreQ (B : Nat) (W : World) (r m : Nat) (dv : List Value) (fv : List Value) (d d2 : Dir) (s3 : PS) (i : Nat) (σ : Nat → Value) (w' : World) : Prop :=
  (i < 7 → Ext W w') ∧ match i with
  | 1 => w'.ownsRow W.heap.size 72 1 (σ 35) 0 []
  | 2 => w'.ownsRow W.heap.size 72 1 (σ 40) m dv
  | 3 => w'.ownsRow W.heap.size 72 1 (σ 40) m dv ∧ RowsOf w' 2 (σ 42) ecells d
  | 4 => w'.ownsRow W.heap.size 72 1 (σ 40) m dv ∧ w'.ownsRow B 100 2 (σ 51) d2.length (d2.flatMap ecells)
  | 5 => w'.ownsRow W.heap.size 72 1 (σ 40) m dv ∧ w'.ownsRow B 100 2 (σ 51) d2.length (d2.flatMap ecells) ∧ Sl w' 1 (σ 52) 1 [σ 51]
  | 6 => w'.ownsRow W.heap.size 72 1 (σ 53) (m + 1) (dv ++ [σ 51]) ∧ w'.ownsRow B 100 2 (σ 51) d2.length (d2.flatMap ecells)
  | 7 => ∃ x', RD B w' r x' s3 ∧ x'.fv = fv ∧ Fr [r] W w'
  | _ => True
set_option maxRecDepth 100000 in
set_option maxHeartbeats 1000000 in
theorem rcreate_any {B : Nat} {w : World} {r : Nat} {x : RX} {s : PS} (n : Nm) (hnm : n.length ≤ maxLen) (h : RD B w r x s) (hB : B ≤ w.heap.size) (hw : WF s) (hl : s.opn.length ≤ 100000) (hfl : s.files.length ≤ 100000) :
    Calls Tryz.prog 18 #[pv r, vN n] w fun e w' => RDo B w r x (creP s n) e w' := by
  have H := hid h
  have HB := hid hB
  have HL := hid hl
  have HFL := hid hfl
  have HFU := hid hw.fu
  have HDL := hid hw.dir.le
  have HNM := hid hnm
  have HDK := hid hw.dir
  have hdo := doP_can s (creE s n) (fun s => { s with files := s.files ++ [([], 0)], opn := s.opn ++ [⟨[], n, some s.files.length⟩] })
  have hcd := canP_same s (creE s n)
  have hcn := fun h => canP_ne s (e := creE s n) h
  have HDO : Hid (creP s n = if (canP s (creE s n)).1 = 0 then (0, ({ (canP s (creE s n)).2 with files := (canP s (creE s n)).2.files ++ [([], 0)], opn := (canP s (creE s n)).2.opn ++ [⟨[], n, some (canP s (creE s n)).2.files.length⟩] } : PS)) else canP s (creE s n)) := hid hdo
  have hfn := findD_neg' (s := s) (n := n)
  obtain ⟨me, hme⟩ : ∃ e, creE s n = e := ⟨_, rfl⟩
  rw [hme] at HDO hcd hcn
  obtain ⟨C, hC⟩ : ∃ C, canP s me = C := ⟨_, rfl⟩
  rw [hC] at HDO hcd hcn
  have HCC := hid hC
  obtain ⟨er, s1⟩ := C
  dsimp only at HDO hcd hcn
  have HCD := hid hcd
  have HCN := hid hcn
  have HME := hid hme
  have HFN := hid hfn
  clear h hB hl hw hdo hme hC hcd hcn hnm hfl hfn
  go_enter Tryz.func18, Tryz.ntmps18
  go_wp2_with fail
  refine (rmay_any n w HNM.out).mono ?_
  rintro e w1 ⟨rfl, hE⟩
  have HE1 := hid hE
  have H1 := hid (H.out.ext hE)
  clear hE
  by_cases hok : nmOk n = false
  · rw [hok]
    obtain rfl : me = 1 := by rw [← HME.out]; unfold creE; rw [if_pos hok]
    clear hok
    go_wp2_with fail
    refine (show Calls Tryz.prog 62 #[pv r, .int .i64 (1 : Int)] _ fun e w' => CanP B _ r x (er, s1) e w' from by have := rcan_any 1 H1.out HFU.out; rw [HCC.out] at this; exact this).mono ?_
    rintro e w2 ⟨rfl, h1, f1⟩
    dsimp only at h1 ⊢
    have H2 := hid h1
    have F2 : Hid (Fr [r] w w2) := hid ((Ext.fr HE1.out).trans f1)
    clear h1 f1
    have her : er ≠ 0 := HCN.out (by decide)
    have be : ((er : Int) == 0) = false := by simp; omega
    have HD2 : Hid (creP s n = (er, s1)) := hid (by rw [HDO.out, if_neg her])
    clear her
    go_wp2
    go_ret
    unfold RDo
    rw [HD2.out]
    exact ⟨rfl, ⟨x, H2.out, Nw.refl _ _⟩, F2.out.mono (by simp)⟩
  have hok2 : nmOk n = true := by simpa using hok
  have HOK := hid hok
  rw [hok2]
  clear hok hok2
  go_wp2_with fail
  refine (rfind_any n H1.out).mono ?_
  rintro e w1b ⟨rfl, hE⟩
  replace HE1 := hid (HE1.out.trans hE)
  replace H1 := hid (H1.out.ext hE)
  obtain ⟨fd, hfd⟩ : ∃ f, findD s.dir n = f := ⟨_, rfl⟩
  have hfn := HFN.out
  rw [hfd] at hfn ⊢
  clear hfd hE
  by_cases hlk : look s.dir n = none
  case neg =>
    have hneg : decide (0 ≤ fd) = true := by rw [decide_eq_false hlk] at hfn; simp at hfn ⊢; omega
    obtain rfl : me = 6 := by rw [← HME.out]; unfold creE; rw [if_neg HOK.out, if_pos (by cases hq : look s.dir n with | none => exact absurd hq hlk | some f => rfl)]
    clear hlk hfn
    go_wp2_with fail
    refine (show Calls Tryz.prog 62 #[pv r, .int .i64 (6 : Int)] _ fun e w' => CanP B _ r x (er, s1) e w' from by have := rcan_any 6 H1.out HFU.out; rw [HCC.out] at this; exact this).mono ?_
    rintro e w2 ⟨rfl, h1, f1⟩
    dsimp only at h1 ⊢
    have H2 := hid h1
    have F2 : Hid (Fr [r] w w2) := hid ((Ext.fr HE1.out).trans f1)
    clear h1 f1
    have her : er ≠ 0 := HCN.out (by decide)
    have be : ((er : Int) == 0) = false := by simp; omega
    have HD2 : Hid (creP s n = (er, s1)) := hid (by rw [HDO.out, if_neg her])
    clear her
    go_wp2
    go_ret
    unfold RDo
    rw [HD2.out]
    exact ⟨rfl, ⟨x, H2.out, Nw.refl _ _⟩, F2.out.mono (by simp)⟩
  have hneg : decide (0 ≤ fd) = false := by rw [decide_eq_true hlk] at hfn; simp at hfn ⊢; omega
  have HLK := hid hlk
  clear hlk hfn
  go_wp2_with fail
  refine (rnow_any H1.out).mono ?_
  rintro e w1c ⟨⟨v1, rfl, ho⟩, hE⟩
  replace HE1 := hid (HE1.out.trans hE)
  replace H1 := hid (H1.out.ext hE)
  obtain ⟨o1, c1, rfl⟩ := row_slN ho
  obtain ⟨dl, hdl⟩ : ∃ k, s.dir.length = k := ⟨_, rfl⟩
  have HDLE := hid hdl
  have hdlb : dl ≤ 100 := by have := HDL.out; omega
  rw [hdl]
  clear ho hE hdl hneg
  by_cases h60 : 60 ≤ dl
  · have e60 : decide ((60 : Int) ≤ (dl : Int)) = true := by simp; omega
    obtain rfl : me = 4 := by rw [← HME.out]; unfold creE; rw [if_neg HOK.out, if_neg (by rw [HLK.out]; simp), HDLE.out, if_pos h60]
    clear h60
    go_wp2_with fail
    refine (show Calls Tryz.prog 62 #[pv r, .int .i64 (4 : Int)] _ fun e w' => CanP B _ r x (er, s1) e w' from by have := rcan_any 4 H1.out HFU.out; rw [HCC.out] at this; exact this).mono ?_
    rintro e w2 ⟨rfl, h1, f1⟩
    dsimp only at h1 ⊢
    have H2 := hid h1
    have F2 : Hid (Fr [r] w w2) := hid ((Ext.fr HE1.out).trans f1)
    clear h1 f1
    have her : er ≠ 0 := HCN.out (by decide)
    have be : ((er : Int) == 0) = false := by simp; omega
    have HD2 : Hid (creP s n = (er, s1)) := hid (by rw [HDO.out, if_neg her])
    clear her
    go_wp2
    go_ret
    unfold RDo
    rw [HD2.out]
    exact ⟨rfl, ⟨x, H2.out, Nw.refl _ _⟩, F2.out.mono (by simp)⟩
  have e60 : decide ((60 : Int) ≤ (dl : Int)) = false := by simp; omega
  obtain rfl : me = 0 := by rw [← HME.out]; unfold creE; rw [if_neg HOK.out, if_neg (by rw [HLK.out]; simp), HDLE.out, if_neg h60]
  clear h60
  go_wp2_with fail
  refine (show Calls Tryz.prog 62 #[pv r, .int .i64 (0 : Int)] _ fun e w' => CanP B _ r x (er, s1) e w' from by have := rcan_any 0 H1.out HFU.out; rw [HCC.out] at this; exact this).mono ?_
  rintro e w2 ⟨rfl, h1, f1⟩
  dsimp only at h1 ⊢
  have H2 := hid h1
  have F2 : Hid (Fr [r] w w2) := hid ((Ext.fr HE1.out).trans f1)
  clear h1 f1
  by_cases her : er = 0
  case neg =>
    have be : ((er : Int) == 0) = false := by simp; omega
    have HD2 : Hid (creP s n = (er, s1)) := hid (by rw [HDO.out, if_neg her])
    clear her
    go_wp2
    go_ret
    unfold RDo
    rw [HD2.out]
    exact ⟨rfl, ⟨x, H2.out, Nw.refl _ _⟩, F2.out.mono (by simp)⟩
  subst her
  clear e60 hdlb
  have HDN : Hid (x.dv.length ≤ 100001) := hid (by have h5 := H2.out.dn; have h6 := congrArg List.length HCD.out.2.1; have h7 := HL.out; omega)
  obtain ⟨nf, hnf⟩ : ∃ k, s1.files.length = k := ⟨_, rfl⟩
  have HNF := hid hnf
  have hnfb : nf ≤ 100000 := by have h6 := congrArg List.length HCD.out.2.2.1; have h7 := HFL.out; omega
  have HD2 : Hid (creP s n = (0, ({ ({ s1 with files := s1.files ++ [([], 0)] } : PS) with opn := s1.opn ++ [⟨[], n, some nf⟩] } : PS))) := hid (by rw [HDO.out, if_pos rfl, ← hnf])
  have h3 := H2.out.ext (Ext.alloc w2 (.cells #[] 98))
  obtain ⟨⟨-, c1, -, -, -⟩, -⟩ := lk5 h3.hd
  have hsl := Sl.of_owns h3.fr
  have hdr := h3.fr
  rw [hnf] at hsl hdr
  obtain ⟨fo, fc, hvf⟩ := row_slN hdr
  rw [hvf] at c1 hsl
  have HSL := hid hsl
  have HONE := hid H2.out.fv_one
  have HLIT := hid (World.ownsRow_lit (base := w2.heap.size) (e := 98) (size := 2) w2 #[] 0 (Nat.le_refl _) (by simp [maxLen]) (by simp))
  clear h3 hsl hvf hdr hnf
  go_wp2_with (at_builtin; first | (refine wpList_append_slN rfl (.tmp 23) (.tmp 27) 62 rfl w2.heap.size 98 Tryz.underlying62 infoFil rfl (by decide) rfl HLIT.out rfl HSL.out HONE.out nf (by omega) (by simp [maxLen]; omega) (by omega) (by simp) ?_; intro ao3 cap3 w3 hO3 hg3 hb3; have HO3 := hid hO3; have HE3 : Hid (Ext w2 w3) := hid (Below.trans (Ext.alloc _ _) hb3); have HT := hid (Sl.of_owns (World.ownsRow_lit (base := w3.heap.size) (e := 98) (size := 2) w3 #[.slice none 0 0, .int .i64 0] 1 (Nat.le_refl _) (by simp [maxLen]) (by simp))); clear hO3 hg3 hb3; clear c1) | (refine wpList_append_slN rfl (.tmp 28) (.tmp 30) 62 rfl w2.heap.size 98 Tryz.underlying62 infoFil rfl (by decide) rfl ((Ext.alloc w3 _).owns HO3.out) rfl HT.out (by intro y hy; simp at hy; rcases hy with rfl | rfl <;> rfl) (nf + 1) (by omega) (by simp [maxLen]; omega) (by omega) (Nat.le_trans HE3.out.size (by simp)) ?_; intro ao6 cap6 w6 hO6 hg6 hb6; have HO6 := hid hO6; have HE6 : Hid (Ext w2 w6) := hid (Below.trans (HE3.out.trans (Ext.alloc _ _)) hb6); have h6 := H2.out.ext HE6.out; have H6 := hid h6; obtain ⟨⟨-, c1, -, -, -⟩, ff⟩ := lk5 h6.hd; have f1 := ff 1; clear hO6 hg6 hb6 h6 ff))
  have HW7 : Hid (RD B (w6.setCell ⟨r, 1, none⟩ (.slice ao6 (nf + 1) cap6)) r ⟨.slice ao6 (nf + 1) cap6, x.vd, x.fv ++ [nilV], x.dv⟩ { s1 with files := s1.files ++ [([], 0)] }) := hid (H6.out.file _ (by rw [HNF.out]; exact owns_mono (by simpa using HO6.out) (Nat.le_trans HB.out F2.out.size)))
  have F7 : Hid (Fr [r] w (w6.setCell ⟨r, 1, none⟩ (.slice ao6 (nf + 1) cap6))) := hid (F2.out.trans ((Ext.fr HE6.out).trans (fr_setCell _ _ _ (by simp))))
  generalize w6.setCell ⟨r, 1, none⟩ (.slice ao6 (nf + 1) cap6) = W7 at *
  have HB7 := hid (Nat.le_trans HB.out F7.out.size)
  clear c1 f1 HSL HONE HLIT HO3 HE3 HT HO6 HE6 H6
  obtain ⟨⟨-, c1, c2, -, -⟩, -⟩ := lk5 HW7.out.hd
  have C1 := hid c1
  have hsl := Sl.of_owns HW7.out.dr
  obtain ⟨m, hm⟩ : ∃ m, x.dv.length = m := ⟨_, rfl⟩
  have HM := hid hm
  have hdn : m ≤ 100001 := by have := HDN.out; omega
  have hdr := HW7.out.dr
  dsimp only at hsl hdr c2
  rw [hm] at hsl hdr
  obtain ⟨vo, vc, hvd⟩ := row_slN hdr
  rw [hvd] at c2 hsl
  have HSL := hid hsl
  have C2 := hid c2
  have HONE : Hid (∀ y ∈ x.dv, y.oneCell' = true) := hid HW7.out.dv_one
  have HDLL : Hid (s1.dir.length ≤ 100) := hid (by have h6 := congrArg List.length HCD.out.1; have h7 := HDL.out; omega)
  have HAC : Hid (appC s1.dir ⟨[], n, some nf⟩ = inN s1.dir n nf) := hid (by rw [HCD.out.1]; exact appC_new HDK.out HLK.out nf)
  clear c1 c2 hsl hdr hvd hm
  go_wp2_with fail
  refine ParE.wp_region_e (l := [_, _, _, _, _, _, _, _, _, _, _, _, _, _, _, _, _, _, _, _, _, _, _]) rfl (Rg.Ch [1, 6, 8, 17, 18, 19, 22] [35, 40, 42, 51, 52, 53] (CreQ B W7 r m x.dv (x.fv ++ [nilV]) s1.dir (inN s1.dir n nf) ({ ({ s1 with files := s1.files ++ [([], 0)] } : PS) with opn := s1.opn ++ [⟨[], n, some nf⟩] } : PS))) (ParC.VC [ParC.EQ (pv r), (fun _ => True), ParC.EQ (pv r), ParC.EQ (pv r), ParC.EQ (Value.pointer (some ⟨r, 2, none⟩)), ParC.EQ (Value.slice vo m vc), (fun _ => True), ParC.EQ (pv r), (fun _ => True), ParC.EQ (vN n), ParC.EQ (pv r), ParC.EQ (pv r), ParC.EQ (Value.pointer (some ⟨r, 1, none⟩)), ParC.EQ (Value.slice ao6 (nf + 1) cap6), ParC.EQ (Value.int IntKind.i64 ((nf : Int) + 1)), ParC.EQ (Value.int IntKind.i64 (nf : Int)), ParC.EQ (Value.agg #[vN n, .int .i64 (nf : Int)]), (fun _ => True), (fun _ => True), (fun _ => True), ParC.EQ (pv r), ParC.EQ (Value.pointer (some ⟨r, 2, none⟩)), fun _ => True]) (by kernel_rfl) (by kernel_rfl) (Rg.Ch.start ⟨fun _ => Ext.draw _, trivial⟩) ?_ ?_
  · refine ⟨fun L ρ w' hR hC hL hd hk => ?_, ?_⟩
    · exact Par.val_of_run rfl ⟨hR.other (by decide), hk.1⟩
    refine ⟨fun L ρ w' hR hC hL hd hk => ?_, ?_⟩
    · obtain ⟨-⟩ := hk
      skip
      refine Par.val_k fun K hK => ?_
      unfold Par.val
      (obtain ⟨hq, hs⟩ := hR.go 0 rfl hL (.inl rfl) (by decide); have hx := hq.1 (by decide); go_simp; exact hK _ _ ⟨hs _ _ _ ⟨fun _ => hx.trans (Ext.alloc _ _), owns_mono (World.ownsRow_lit (base := w'.heap.size) w' #[] 0 (Nat.le_refl _) (by simp [maxLen]) (by simp)) hx.size⟩, trivial⟩)
    refine ⟨fun L ρ w' hR hC hL hd hk => ?_, ?_⟩
    · exact Par.val_of_run rfl ⟨hR.other (by decide), hk.1⟩
    refine ⟨fun L ρ w' hR hC hL hd hk => ?_, ?_⟩
    · obtain ⟨k0, -⟩ := hk
      have e0 : ρ (.tmp 36) = pv r := k0
      clear k0
      refine Par.val_k fun K hK => ?_
      unfold Par.val
      (go_simp; exact hK _ _ ⟨hR.other (by decide), rfl⟩)
    refine ⟨fun L ρ w' hR hC hL hd hk => ?_, ?_⟩
    · obtain ⟨k0, -⟩ := hk
      have e0 : ρ (.tmp 37) = pv r := k0
      clear k0
      refine Par.val_k fun K hK => ?_
      unfold Par.val
      (go_simp; exact hK _ _ ⟨hR.other (by decide), rfl⟩)
    refine ⟨fun L ρ w' hR hC hL hd hk => ?_, ?_⟩
    · obtain ⟨k0, -⟩ := hk
      have e0 : ρ (.tmp 38) = Value.pointer (some ⟨r, 2, none⟩) := k0
      clear k0
      refine Par.val_k fun K hK => ?_
      unfold Par.val
      (obtain ⟨i, hi, hq⟩ := hR.some 6 rfl (hC.notyet 22 5 hL (by kernel_rfl)); have cc := (hq.1 (by omega)).cell C2.out; go_simp; exact hK _ _ ⟨hR.other (by decide), rfl⟩)
    refine ⟨fun L ρ w' hR hC hL hd hk => ?_, ?_⟩
    · obtain ⟨k0, k1, -⟩ := hk
      have e0 : (fun _ => True) (ρ (.tmp 35))  := k0
      have e1 : ρ (.tmp 39) = Value.slice vo m vc := k1
      clear k0 k1
      refine Par.val_k fun K hK => ?_
      unfold Par.val
      (obtain ⟨hq, hs⟩ := hR.go 1 rfl hL (.inr ⟨1, rfl, hC.before 1 (i := 6) rfl hd (by kernel_rfl)⟩) (by decide); have hx := hq.1 (by decide); have ho : w'.ownsRow W7.heap.size 72 1 (ρ (.tmp 35)) 0 [] := hq.2; obtain ⟨v', w2, r1, r2, r3, r4⟩ := run_app_dirs W7.heap.size 63 ho (HSL.out.ext hx) HONE.out (by omega) hx.size; rw [← e1] at r1; have r2' : w2.ownsRow W7.heap.size 72 1 v' m x.dv := (by simpa using r2); exact Par.val_append r1 (hK _ _ ⟨hs _ _ _ ⟨fun _ => Below.trans hx r4, r2'⟩, trivial⟩))
    refine ⟨fun L ρ w' hR hC hL hd hk => ?_, ?_⟩
    · exact Par.val_of_run rfl ⟨hR.other (by decide), hk.1⟩
    refine ⟨fun L ρ w' hR hC hL hd hk => ?_, ?_⟩
    · obtain ⟨k0, k1, -⟩ := hk
      have e0 := k0
      have e1 : ρ (.tmp 41) = pv r := k1
      clear k0 k1
      refine Par.val_k fun K hK => ?_
      unfold Par.val
      (obtain ⟨hq, hs⟩ := hR.go 2 rfl hL (.inr ⟨6, rfl, hC.before 6 (i := 8) rfl hd (by kernel_rfl)⟩) (by decide); have hx := hq.1 (by decide); have ho : w'.ownsRow W7.heap.size 72 1 (ρ (.tmp 40)) m x.dv := hq.2; refine Par.val_call Tryz.func54 (by kernel_rfl) rfl e0 ?_; simp only [List.map_toArray, List.map_cons, List.map_nil, e1]; refine (rnow_any (HW7.out.ext hx)).mono ?_; rintro e w2 ⟨⟨v4, rfl, ho4⟩, hE4⟩; exact ⟨_, rfl, hK _ _ ⟨hs _ _ _ ⟨fun _ => hx.trans hE4, hE4.owns ho, ⟨fun _ _ => rfl, Sl.of_owns ho4⟩⟩, trivial⟩⟩)
    refine ⟨fun L ρ w' hR hC hL hd hk => ?_, ?_⟩
    · exact Par.val_of_run rfl ⟨hR.other (by decide), hk.1⟩
    refine ⟨fun L ρ w' hR hC hL hd hk => ?_, ?_⟩
    · exact Par.val_of_run rfl ⟨hR.other (by decide), hk.1⟩
    refine ⟨fun L ρ w' hR hC hL hd hk => ?_, ?_⟩
    · obtain ⟨k0, -⟩ := hk
      have e0 : ρ (.tmp 44) = pv r := k0
      clear k0
      refine Par.val_k fun K hK => ?_
      unfold Par.val
      (go_simp; exact hK _ _ ⟨hR.other (by decide), rfl⟩)
    refine ⟨fun L ρ w' hR hC hL hd hk => ?_, ?_⟩
    · obtain ⟨k0, -⟩ := hk
      have e0 : ρ (.tmp 45) = pv r := k0
      clear k0
      refine Par.val_k fun K hK => ?_
      unfold Par.val
      (go_simp; exact hK _ _ ⟨hR.other (by decide), rfl⟩)
    refine ⟨fun L ρ w' hR hC hL hd hk => ?_, ?_⟩
    · obtain ⟨k0, -⟩ := hk
      have e0 : ρ (.tmp 46) = Value.pointer (some ⟨r, 1, none⟩) := k0
      clear k0
      refine Par.val_k fun K hK => ?_
      unfold Par.val
      (obtain ⟨i, hi, hq⟩ := hR.some 6 rfl (hC.notyet 22 13 hL (by kernel_rfl)); have cc := (hq.1 (by omega)).cell C1.out; go_simp; exact hK _ _ ⟨hR.other (by decide), rfl⟩)
    refine ⟨fun L ρ w' hR hC hL hd hk => ?_, ?_⟩
    · obtain ⟨k0, -⟩ := hk
      have e0 : ρ (.tmp 47) = Value.slice ao6 (nf + 1) cap6 := k0
      clear k0
      refine Par.val_k fun K hK => ?_
      unfold Par.val
      (go_simp; exact hK _ _ ⟨hR.other (by decide), rfl⟩)
    refine ⟨fun L ρ w' hR hC hL hd hk => ?_, ?_⟩
    · obtain ⟨k0, k1, -⟩ := hk
      have e0 : ρ (.tmp 48) = Value.int IntKind.i64 ((nf : Int) + 1) := k0
      have e1 : ρ (Operand.const (Value.int IntKind.i64 1)) = (Value.int IntKind.i64 1) := k1
      clear k0 k1
      refine Par.val_k fun K hK => ?_
      unfold Par.val
      (have hwr : IntKind.i64.wrap (nf : Int) = (nf : Int) := IntWalk.i64_in _ (by omega); go_simp; exact hK _ _ ⟨hR.other (by decide), rfl⟩)
    refine ⟨fun L ρ w' hR hC hL hd hk => ?_, ?_⟩
    · obtain ⟨k0, k1, -⟩ := hk
      have e0 : ρ (.tmp 43) = vN n := k0
      have e1 : ρ (.tmp 49) = Value.int IntKind.i64 (nf : Int) := k1
      clear k0 k1
      refine Par.val_k fun K hK => ?_
      unfold Par.val
      (go_simp; exact hK _ _ ⟨hR.other (by decide), rfl⟩)
    refine ⟨fun L ρ w' hR hC hL hd hk => ?_, ?_⟩
    · obtain ⟨k0, k1, k2, -⟩ := hk
      have e0 := k0
      have e1 : (fun _ => True) (ρ (.tmp 42))  := k1
      have e2 : ρ (.tmp 50) = Value.agg #[vN n, .int .i64 (nf : Int)] := k2
      clear k0 k1 k2
      refine Par.val_k fun K hK => ?_
      unfold Par.val
      (obtain ⟨hq, hs⟩ := hR.go 3 rfl hL (.inr ⟨8, rfl, hC.before 8 (i := 17) rfl hd (by kernel_rfl)⟩) (by decide); have hx := hq.1 (by decide); have ho : w'.ownsRow W7.heap.size 72 1 (ρ (.tmp 40)) m x.dv := hq.2.1; have hrw : RowsOf w' 2 (ρ (.tmp 42)) ecells s1.dir := hq.2.2; refine Par.val_call Tryz.func63 (by kernel_rfl) rfl e0 ?_; simp only [List.map_toArray, List.map_cons, List.map_nil, e2]; refine (rwith_any w' _ s1.dir n nf hrw HDLL.out).mono ?_; rintro e w2 ⟨⟨u5, rfl, ho5⟩, hE5⟩; exact ⟨_, rfl, hK _ _ ⟨hs _ _ _ ⟨fun _ => hx.trans hE5, hE5.owns ho, owns_mono ho5 (Nat.le_trans HB7.out hx.size)⟩, trivial⟩⟩)
    refine ⟨fun L ρ w' hR hC hL hd hk => ?_, ?_⟩
    · obtain ⟨k0, -⟩ := hk
      have e0 : (fun _ => True) (ρ (.tmp 51))  := k0
      clear k0
      refine Par.val_k fun K hK => ?_
      unfold Par.val
      (obtain ⟨hq, hs⟩ := hR.go 4 rfl hL (.inr ⟨17, rfl, hC.before 17 (i := 18) rfl hd (by kernel_rfl)⟩) (by decide); have hx := hq.1 (by decide); have ho : w'.ownsRow W7.heap.size 72 1 (ρ (.tmp 40)) m x.dv := hq.2.1; have hu : w'.ownsRow B 100 2 (ρ (.tmp 51)) (inN s1.dir n nf).length ((inN s1.dir n nf).flatMap ecells) := hq.2.2; obtain ⟨o5, n5, c5, h5⟩ := row_slice hu; have hsl : Hid (Sl (w'.alloc (.cells #[.slice o5 n5 c5] 72)) 1 (.slice (some ⟨w'.heap.size, 0, none⟩) 1 1) 1 [ρ (.tmp 51)]) := hid (by rw [h5]; exact Sl.of_owns (World.ownsRow_lit (base := w'.heap.size) w' #[.slice o5 n5 c5] 1 (Nat.le_refl _) (by simp [maxLen]) (by simp))); go_simp; exact hK _ _ ⟨hs _ _ _ ⟨fun _ => hx.trans (Ext.alloc _ _), (Ext.alloc _ _).owns ho, (Ext.alloc _ _).owns hu, hsl.out⟩, trivial⟩)
    refine ⟨fun L ρ w' hR hC hL hd hk => ?_, ?_⟩
    · obtain ⟨k0, k1, -⟩ := hk
      have e0 : (fun _ => True) (ρ (.tmp 40))  := k0
      have e1 : (fun _ => True) (ρ (.tmp 52))  := k1
      clear k0 k1
      refine Par.val_k fun K hK => ?_
      unfold Par.val
      (obtain ⟨hq, hs⟩ := hR.go 5 rfl hL (.inr ⟨18, rfl, hC.before 18 (i := 19) rfl hd (by kernel_rfl)⟩) (by decide); have hx := hq.1 (by decide); have ho : w'.ownsRow W7.heap.size 72 1 (ρ (.tmp 40)) m x.dv := hq.2.1; have hu : w'.ownsRow B 100 2 (ρ (.tmp 51)) (inN s1.dir n nf).length ((inN s1.dir n nf).flatMap ecells) := hq.2.2.1; have hsl : Sl w' 1 (ρ (.tmp 52)) 1 [ρ (.tmp 51)] := hq.2.2.2; obtain ⟨o5, n5, c5, h5⟩ := row_slice hu; obtain ⟨v', w2, r1, r2, r3, r4⟩ := run_app_dirs W7.heap.size 63 ho hsl (by intro y hy; obtain rfl : y = ρ (.tmp 51) := (by simpa using hy); rw [h5]; rfl) (by omega) hx.size; exact Par.val_append r1 (hK _ _ ⟨hs _ _ _ ⟨fun _ => Below.trans hx r4, r2, ownsRow_fr2 hu r3 (own_blk ho (by decide))⟩, trivial⟩))
    refine ⟨fun L ρ w' hR hC hL hd hk => ?_, ?_⟩
    · obtain ⟨k0, -⟩ := hk
      have e0 : ρ (.tmp 34) = pv r := k0
      clear k0
      refine Par.val_k fun K hK => ?_
      unfold Par.val
      (go_simp; exact hK _ _ ⟨hR.other (by decide), rfl⟩)
    refine ⟨fun L ρ w' hR hC hL hd hk => ?_, ?_⟩
    · obtain ⟨k0, -⟩ := hk
      have e0 : ρ (.tmp 54) = pv r := k0
      clear k0
      refine Par.val_k fun K hK => ?_
      unfold Par.val
      (go_simp; exact hK _ _ ⟨hR.other (by decide), rfl⟩)
    refine ⟨fun L ρ w' hR hC hL hd hk => ?_, ?_⟩
    · obtain ⟨k0, k1, -⟩ := hk
      have e0 : ρ (.tmp 55) = Value.pointer (some ⟨r, 2, none⟩) := k0
      have e1 : (fun _ => True) (ρ (.tmp 53))  := k1
      clear k0 k1
      refine Par.val_k fun K hK => ?_
      unfold Par.val
      (obtain ⟨hq, hs⟩ := hR.go 6 rfl hL (.inr ⟨19, rfl, hC.before 19 (i := 22) rfl hd (by kernel_rfl)⟩) (by decide); have hx := hq.1 (by decide); have ho : w'.ownsRow W7.heap.size 72 1 (ρ (.tmp 53)) (m + 1) (x.dv ++ [ρ (.tmp 51)]) := hq.2.1; have hu : w'.ownsRow B 100 2 (ρ (.tmp 51)) (inN s1.dir n nf).length ((inN s1.dir n nf).flatMap ecells) := hq.2.2; obtain ⟨o6, c6, h6⟩ := row_slN ho; have e4 : ρ (.tmp 53) = .slice o6 (m + 1) c6 := h6; have h9 := HW7.out.ext hx; have hmo := hid (RD.more h9 ⟨[], n, some nf⟩ (ρ (.tmp 51)) (.slice o6 (m + 1) c6) (by have h77 := hu; rw [← HAC.out] at h77; exact h77) (by rw [← e4]; show w'.ownsRow B _ 1 _ (x.dv.length + 1) _; rw [HM.out]; exact owns_mono ho HB7.out)); obtain ⟨⟨-, -, c2, -, -⟩, ff⟩ := lk5 h9.hd; have f2 := ff 2; clear ff h9; go_simp; exact hK _ _ ⟨hs none _ _ ⟨fun h => absurd h (by decide), _, hmo.out, rfl, (Ext.fr hx).trans (fr_setCell _ _ _ (by simp))⟩, trivial⟩)
    trivial
  intro a' w' inv hR
  have q34 : a'.tmps.getD 34 undef = pv r := inv.done 0 _ 34 rfl rfl rfl
  have q35 : (fun _ => True) (a'.tmps.getD 35 undef)  := inv.done 1 _ 35 rfl rfl rfl
  have q36 : a'.tmps.getD 36 undef = pv r := inv.done 2 _ 36 rfl rfl rfl
  have q37 : a'.tmps.getD 37 undef = pv r := inv.done 3 _ 37 rfl rfl rfl
  have q38 : a'.tmps.getD 38 undef = Value.pointer (some ⟨r, 2, none⟩) := inv.done 4 _ 38 rfl rfl rfl
  have q39 : a'.tmps.getD 39 undef = Value.slice vo m vc := inv.done 5 _ 39 rfl rfl rfl
  have q40 : (fun _ => True) (a'.tmps.getD 40 undef)  := inv.done 6 _ 40 rfl rfl rfl
  have q41 : a'.tmps.getD 41 undef = pv r := inv.done 7 _ 41 rfl rfl rfl
  have q42 : (fun _ => True) (a'.tmps.getD 42 undef)  := inv.done 8 _ 42 rfl rfl rfl
  have q43 : a'.tmps.getD 43 undef = vN n := inv.done 9 _ 43 rfl rfl rfl
  have q44 : a'.tmps.getD 44 undef = pv r := inv.done 10 _ 44 rfl rfl rfl
  have q45 : a'.tmps.getD 45 undef = pv r := inv.done 11 _ 45 rfl rfl rfl
  have q46 : a'.tmps.getD 46 undef = Value.pointer (some ⟨r, 1, none⟩) := inv.done 12 _ 46 rfl rfl rfl
  have q47 : a'.tmps.getD 47 undef = Value.slice ao6 (nf + 1) cap6 := inv.done 13 _ 47 rfl rfl rfl
  have q48 : a'.tmps.getD 48 undef = Value.int IntKind.i64 ((nf : Int) + 1) := inv.done 14 _ 48 rfl rfl rfl
  have q49 : a'.tmps.getD 49 undef = Value.int IntKind.i64 (nf : Int) := inv.done 15 _ 49 rfl rfl rfl
  have q50 : a'.tmps.getD 50 undef = Value.agg #[vN n, .int .i64 (nf : Int)] := inv.done 16 _ 50 rfl rfl rfl
  have q51 : (fun _ => True) (a'.tmps.getD 51 undef)  := inv.done 17 _ 51 rfl rfl rfl
  have q52 : (fun _ => True) (a'.tmps.getD 52 undef)  := inv.done 18 _ 52 rfl rfl rfl
  have q53 : (fun _ => True) (a'.tmps.getD 53 undef)  := inv.done 19 _ 53 rfl rfl rfl
  have q54 : a'.tmps.getD 54 undef = pv r := inv.done 20 _ 54 rfl rfl rfl
  have q55 : a'.tmps.getD 55 undef = Value.pointer (some ⟨r, 2, none⟩) := inv.done 21 _ 55 rfl rfl rfl
  clear inv
  simp only [List.filterMap_cons, List.filterMap_nil, Par.putAll, Act.put, List.setIfInBounds_toArray, List.set_cons_succ, List.set_cons_zero, q34, q36, q37, q38, q39, q41, q43, q44, q45, q46, q47, q48, q49, q50, q54, q55]
  clear q34 q36 q37 q38 q39 q41 q43 q44 q45 q46 q47 q48 q49 q50 q54 q55
  obtain ⟨-, x', hrd, hxf, hf⟩ := Rg.Ch.fin hR (by decide) 7 rfl; have HRD := hid hrd; have HXF := hid hxf; have HF := hid hf; clear hrd hf hxf hR
  generalize a'.tmps.getD 35 undef = u35 at *
  generalize a'.tmps.getD 40 undef = u40 at *
  generalize a'.tmps.getD 42 undef = u42 at *
  generalize a'.tmps.getD 51 undef = u51 at *
  generalize a'.tmps.getD 52 undef = u52 at *
  generalize a'.tmps.getD 53 undef = u53 at *
  try clear a'
  go_wp2
  go_ret
  unfold RDo
  rw [HD2.out]
  exact ⟨rfl, ⟨x', HRD.out, by rw [HXF.out]; exact Nw.snoc _ _⟩, (F7.out.trans HF.out).mono (by simp)⟩
end Go.Proofs.YtijpokajhjhllaaGreatDoor

set_option linter.unusedSimpArgs false
set_option linter.unusedVariables false
namespace Go.Proofs.YtijpokajhjhllaaGreatDoor
open Go Go.RowKit Go.Tum Go.ChangeMaps
open Go.ParB (upd Lof)
open Go.ParE (putS slotsR slots Closed)

section
variable {α : Type} {A Bf : α → Value}
theorem flat2_get (l : List α) (i : Nat) (h : i < l.length) : (l.flatMap fun z => [A z, Bf z])[i * 2]? = some (A l[i]) ∧ (l.flatMap fun z => [A z, Bf z])[i * 2 + 1]? = some (Bf l[i]) := by
  induction l generalizing i with
  | nil => simp at h
  | cons z r ih =>
    cases i with
    | zero => simp
    | succ i =>
      have := ih i (by simpa using h)
      rw [show (i + 1) * 2 = i * 2 + 1 + 1 by omega]
      simpa using this
theorem flat2_set0 (l : List α) (i : Nat) (h : i < l.length) (z : α) (hz : Bf z = Bf l[i]) : (l.flatMap fun z => [A z, Bf z]).set (i * 2) (A z) = (l.set i z).flatMap fun z => [A z, Bf z] := by
  induction l generalizing i with
  | nil => simp at h
  | cons y r ih =>
    cases i with
    | zero => simp at hz; simp [hz]
    | succ i =>
      have := ih i (by simpa using h) (by simpa using hz)
      rw [show (i + 1) * 2 = i * 2 + 1 + 1 by omega]
      simpa using this
theorem flat2_set1 (l : List α) (i : Nat) (h : i < l.length) (z : α) (hz : A z = A l[i]) : (l.flatMap fun z => [A z, Bf z]).set (i * 2 + 1) (Bf z) = (l.set i z).flatMap fun z => [A z, Bf z] := by
  induction l generalizing i with
  | nil => simp at h
  | cons y r ih =>
    cases i with
    | zero => simp at hz; simp [hz]
    | succ i =>
      have := ih i (by simpa using h) (by simpa using hz)
      rw [show (i + 1) * 2 + 1 = i * 2 + 1 + 1 + 1 by omega]
      simpa using this
end
theorem zip_set2 {α β : Type} : ∀ (l : List α) (m : List β) (i : Nat) (y : α) (v : β), (l.zip m).set i (y, v) = (l.set i y).zip (m.set i v)
  | [], _, _, _, _ => by simp
  | _ :: _, [], i, _, _ => by cases i <;> simp
  | a :: l, b :: m, 0, y, v => by simp
  | a :: l, b :: m, i + 1, y, v => by simp [zip_set2 l m i y v]
theorem modify_set {α : Type} : ∀ (l : List α) (f : Nat) (h : f < l.length) (g : α → α), l.modify f g = l.set f (g l[f])
  | [], f, h, g => by simp at h
  | a :: l, 0, h, g => by simp
  | a :: l, f + 1, h, g => by simp [modify_set l f (by simpa using h) g]
section
variable {B : Nat} {w : World} {r : Nat} {x : RX} {s : PS}
theorem RD.at (h : RD B w r x s) {f : Nat} (hf : f < s.files.length) : ∃ g cap, x.vf = .slice (some ⟨g, 0, none⟩) s.files.length cap ∧ B ≤ g ∧ s.files.length ≤ cap ∧ cap ≤ 9223372036854775807 ∧
    w.cell? ⟨g, f * 2, none⟩ = some (x.fv.getD f nilV) ∧ w.cell? ⟨g, f * 2 + 1, none⟩ = some (.int .i64 (s.files[f].2 : Int)) ∧ (∀ i, w.frozen? ⟨g, i, none⟩ = false) := by
  have hrow := h.fr
  rcases hrow.2 with ⟨hv, h0⟩ | ⟨g, cap, cur, hv, hb, hgg, h1, h2, h3, h4⟩
  · omega
  · rw [hv] at hrow
    have hz : f < (s.files.zip x.fv).length := by rw [List.length_zip, h.fn]; omega
    have hf2 : f < x.fv.length := by rw [h.fn]; exact hf
    obtain ⟨g0, g1⟩ := flat2_get (A := fun p : (List UInt8 × Nat) × Value => p.2) (Bf := fun p => .int .i64 (p.1.2 : Int)) _ f hz
    refine ⟨g, cap, hv, hb, h1, by simpa [maxLen] using h2, ?_, ?_, fun i => World.ownsRow.frozenAt hrow i⟩
    · rw [World.ownsRow.cellAt hrow _ (by omega), g0, List.getElem_zip, List.getD_eq_getElem?_getD, List.getElem?_eq_getElem hf2]; rfl
    · rw [World.ownsRow.cellAt hrow _ (by omega), g1, List.getElem_zip]
/-- A store into the row of files: the bytes of one. -/
theorem RD.set0 (h : RD B w r x s) {f : Nat} (hf : f < s.files.length) {g n cap : Nat} (hv : x.vf = .slice (some ⟨g, 0, none⟩) n cap) (b : List UInt8) (v : Value) (hb : Own w B 5 v b) :
    RD B (w.setCell ⟨g, f * 2, none⟩ v) r { x with fv := x.fv.set f v } { s with files := s.files.set f (b, s.files[f].2) } ∧ Fr (r :: oB x.vf) w (w.setCell ⟨g, f * 2, none⟩ v) := by
  have hgo : g ∈ oB x.vf := by rw [hv]; simp [oB, Value.ownBlock]
  have hF : Fr (oB x.vf) w (w.setCell ⟨g, f * 2, none⟩ v) := fr_setCell _ _ _ hgo
  have hs : ∀ e, e ≠ 98 → ∀ q ∈ oB x.vf, ∃ o, w.heap[q]? = some o ∧ ∀ cs, o ≠ .cells cs e (0, 0) := fun e he => own_blk h.fr he
  have hrg : r ∉ oB x.vf := fun hm => by
    obtain ⟨o, ho, hn⟩ := hs 65 (by decide) r hm
    rw [h.hd] at ho; cases ho; exact hn _ rfl
  refine ⟨⟨(hF.block r (Array.getElem?_eq_some_iff.1 h.hd).1 hrg).trans h.hd, by simp [h.fn], ?_, fun i hi => ?_, h.dn, ownsRow_fr2 h.dr hF (hs _ (by decide)), fun k hk => ownsRow_fr2 (h.dd k hk) hF (hs _ (by decide)), h.lo⟩, hF.mono (by intro q hq; simp [hq])⟩
  · have hrow := h.fr
    rw [hv] at hrow ⊢
    obtain rfl : n = s.files.length := by
      obtain ⟨ao, cap2, e⟩ := row_shape hrow
      cases e; rfl
    have := (World.ownsRow.stored hrow (f * 2) v).1
    have hz : f < (s.files.zip x.fv).length := by rw [List.length_zip, h.fn]; omega
    have e1 := flat2_set0 (A := fun p : (List UInt8 × Nat) × Value => p.2) (Bf := fun p => .int .i64 (p.1.2 : Int)) (s.files.zip x.fv) f hz ((b, s.files[f].2), v) (by simp)
    rw [show ((s.files.zip x.fv).flatMap rfcells).set (f * 2) v = _ from e1, zip_set2] at this
    show World.ownsRow _ B _ 2 _ (s.files.set f (b, s.files[f].2)).length _
    rw [List.length_set]
    exact this
  · show Own _ B _ ((x.fv.set f v).getD i nilV) ((s.files.set f (b, s.files[f].2))[i]'hi).1
    have hi2 : i < s.files.length := by simpa using hi
    by_cases hif : i = f
    · subst hif
      rw [List.getD_eq_getElem?_getD, List.getElem?_set_self (by rw [h.fn]; exact hf), List.getElem_set_self]
      exact ownsRow_fr2 hb hF (hs _ (by decide))
    · rw [List.getD_eq_getElem?_getD, List.getElem?_set_ne (fun e => hif e.symm), List.getElem_set_ne (fun e => hif e.symm), ← List.getD_eq_getElem?_getD]
      exact ownsRow_fr2 (h.fb i hi2) hF (hs _ (by decide))
/-- A store into the row of files: how many of one's bytes are sure. -/
theorem RD.set1 (h : RD B w r x s) {f : Nat} (hf : f < s.files.length) {g n cap : Nat} (hv : x.vf = .slice (some ⟨g, 0, none⟩) n cap) (k : Nat) :
    RD B (w.setCell ⟨g, f * 2 + 1, none⟩ (.int .i64 (k : Int))) r x { s with files := s.files.set f (s.files[f].1, k) } ∧ Fr (r :: oB x.vf) w (w.setCell ⟨g, f * 2 + 1, none⟩ (.int .i64 (k : Int))) := by
  have hgo : g ∈ oB x.vf := by rw [hv]; simp [oB, Value.ownBlock]
  have hF : Fr (oB x.vf) w (w.setCell ⟨g, f * 2 + 1, none⟩ (.int .i64 (k : Int))) := fr_setCell _ _ _ hgo
  have hs : ∀ e, e ≠ 98 → ∀ q ∈ oB x.vf, ∃ o, w.heap[q]? = some o ∧ ∀ cs, o ≠ .cells cs e (0, 0) := fun e he => own_blk h.fr he
  have hrg : r ∉ oB x.vf := fun hm => by
    obtain ⟨o, ho, hn⟩ := hs 65 (by decide) r hm
    rw [h.hd] at ho; cases ho; exact hn _ rfl
  refine ⟨⟨(hF.block r (Array.getElem?_eq_some_iff.1 h.hd).1 hrg).trans h.hd, by simp [h.fn], ?_, fun i hi => ?_, h.dn, ownsRow_fr2 h.dr hF (hs _ (by decide)), fun k hk => ownsRow_fr2 (h.dd k hk) hF (hs _ (by decide)), h.lo⟩, hF.mono (by intro q hq; simp [hq])⟩
  · have hrow := h.fr
    rw [hv] at hrow ⊢
    obtain rfl : n = s.files.length := by
      obtain ⟨ao, cap2, e⟩ := row_shape hrow
      cases e; rfl
    have := (World.ownsRow.stored hrow (f * 2 + 1) (.int .i64 (k : Int))).1
    have hz : f < (s.files.zip x.fv).length := by rw [List.length_zip, h.fn]; omega
    have hf2 : f < x.fv.length := by rw [h.fn]; exact hf
    have e1 := flat2_set1 (A := fun p : (List UInt8 × Nat) × Value => p.2) (Bf := fun p => .int .i64 (p.1.2 : Int)) (s.files.zip x.fv) f hz ((s.files[f].1, k), x.fv[f]) (by simp)
    rw [show ((s.files.zip x.fv).flatMap rfcells).set (f * 2 + 1) (.int .i64 (k : Int)) = _ from e1, zip_set2, List.set_getElem_self] at this
    show World.ownsRow _ B _ 2 _ (s.files.set f (s.files[f].1, k)).length _
    rw [List.length_set]
    exact this
  · show Own _ B _ (x.fv.getD i nilV) ((s.files.set f (s.files[f].1, k))[i]'hi).1
    have hi2 : i < s.files.length := by simpa using hi
    by_cases hif : i = f
    · subst hif
      rw [List.getElem_set_self]
      exact ownsRow_fr2 (h.fb i hi2) hF (hs _ (by decide))
    · rw [List.getElem_set_ne (fun e => hif e.symm)]
      exact ownsRow_fr2 (h.fb i hi2) hF (hs _ (by decide))
end
theorem addr0 (g k : Nat) : (⟨g, 0, none⟩ : Addr).add k = ⟨g, k, none⟩ := by unfold Addr.add; split <;> simp_all
/-- The cells of a file, as a walk spells them. -/
structure FC (w : World) (a : Addr) (f : Nat) (v : Value) (k : Nat) : Prop where
  c0 : w.cell? (a.add (f * 2)) = some v
  c1 : w.cell? ⟨(a.add (f * 2)).block, (a.add (f * 2)).off + 1, none⟩ = some (.int .i64 (k : Int))
  f0 : w.frozen? (a.add (f * 2)) = false
  f1 : w.frozen? ⟨(a.add (f * 2)).block, (a.add (f * 2)).off + 1, none⟩ = false
theorem RD.fc {B : Nat} {w : World} {r : Nat} {x : RX} {s : PS} (h : RD B w r x s) {f : Nat} (hf : f < s.files.length) : ∃ a cap g, x.vf = .slice (some a) s.files.length cap ∧ a = ⟨g, 0, none⟩ ∧ s.files.length ≤ cap ∧ cap ≤ 9223372036854775807 ∧ FC w a f (x.fv.getD f nilV) s.files[f].2 := by
  obtain ⟨g, cap, h1, h2, h3, h4, h5, h6, h7⟩ := h.at hf
  refine ⟨⟨g, 0, none⟩, cap, g, h1, rfl, h3, h4, ?_, ?_, ?_, ?_⟩
  · rw [addr0]; exact h5
  · rw [addr0]; exact h6
  · rw [addr0]; exact h7 _
  · rw [addr0]; exact h7 _
theorem ext_frz {w w' : World} (h : Ext w w') {a : Addr} (hl : a.block < w.heap.size) : w'.frozen? a = w.frozen? a := by
  have := h.block a.block hl
  simp [World.frozen?, this]
theorem FC.ext {w w' : World} {a : Addr} {f : Nat} {v : Value} {k : Nat} (h : FC w a f v k) (e : Ext w w') : FC w' a f v k :=
  ⟨e.cell h.c0, e.cell h.c1, (ext_frz e (World.block_lt_of_cell? w _ h.c0)).trans h.f0, (ext_frz e (World.block_lt_of_cell? w _ h.c1)).trans h.f1⟩
/-- One store, behind reads. -/
def OneQ (W : World) (P : World → Prop) (i : Nat) (_ : Nat → Value) (w' : World) : Prop := (i < 1 → Ext W w') ∧ match i with
  | 1 => P w'
  | _ => True
set_option maxRecDepth 100000 in
set_option maxHeartbeats 1000000 in
theorem rsync_any {B : Nat} {w : World} {r : Nat} {x : RX} {s : PS} (n : Nm) (h : RD B w r x s) (hB : B ≤ w.heap.size) (hw : WF s) :
    Calls Tryz.prog 22 #[pv r, vN n] w fun e w' => RDo B w r x (synP s n) e w' := by
  have H := hid h
  have HB := hid hB
  have HFU := hid hw.fu
  have HW := hid hw
  have hdo := doP_can s (missP s n) (fun s : PS => { s with files := setF s.files (look s.dir n) fun x => (x.1, x.1.length) })
  have hcd := canP_same s (missP s n)
  have hcn := fun h => canP_ne s (e := missP s n) h
  have HDO : Hid (synP s n = if (canP s (missP s n)).1 = 0 then (0, (fun s : PS => { s with files := setF s.files (look s.dir n) fun x => (x.1, x.1.length) }) (canP s (missP s n)).2) else canP s (missP s n)) := hid hdo
  have hfn := findD_neg' (s := s) (n := n)
  obtain ⟨me, hme⟩ : ∃ e, missP s n = e := ⟨_, rfl⟩
  rw [hme] at HDO hcd hcn
  obtain ⟨C, hC⟩ : ∃ C, canP s me = C := ⟨_, rfl⟩
  rw [hC] at HDO hcd hcn
  have HCC := hid hC
  obtain ⟨er, s1⟩ := C
  dsimp only at HDO hcd hcn
  have HCD := hid hcd
  have HCN := hid hcn
  have HME := hid hme
  clear h hB hw hdo hme hC hcd hcn
  go_enter Tryz.func22, Tryz.ntmps22
  go_wp2_with fail
  refine (rfind_any n H.out).mono ?_
  rintro e w1 ⟨rfl, hE⟩
  have HE1 := hid hE
  have H1 := hid (H.out.ext hE)
  obtain ⟨fd, hfd⟩ : ∃ f, findD s.dir n = f := ⟨_, rfl⟩
  have HFD := hid hfd
  rw [hfd] at hfn ⊢
  clear hfd hE
  by_cases hlk : look s.dir n = none
  · have hneg : decide (fd < 0) = true := by rw [hfn, decide_eq_true hlk]
    obtain rfl : me = 5 := by rw [← HME.out]; unfold missP; rw [if_pos hlk]
    clear hlk hfn
    go_wp2_with fail
    refine (show Calls Tryz.prog 62 #[pv r, .int .i64 (5 : Int)] _ fun e w' => CanP B _ r x (er, s1) e w' from by have := rcan_any 5 H1.out HFU.out; rw [HCC.out] at this; exact this).mono ?_
    rintro e w2 ⟨rfl, h1, f1⟩
    dsimp only at h1 ⊢
    have H2 := hid h1
    have F2 : Hid (Fr [r] w w2) := hid ((Ext.fr HE1.out).trans f1)
    clear h1 f1
    have her : er ≠ 0 := HCN.out (by decide)
    have be : ((er : Int) == 0) = false := by simp; omega
    have HD2 : Hid (synP s n = (er, s1)) := hid (by rw [HDO.out, if_neg her])
    clear her
    go_wp2
    go_ret
    unfold RDo
    rw [HD2.out]
    exact ⟨rfl, ⟨x, H2.out, Nw.refl _ _⟩, F2.out.mono (by simp)⟩
  have hneg : decide (fd < 0) = false := by rw [hfn, decide_eq_false hlk]
  have hfd2 : ∃ f : Nat, look s.dir n = some f ∧ fd = (f : Int) := by
    have h1 := HFD.out
    unfold findD at h1
    cases hlo : look s.dir n with
    | none => exact absurd hlo hlk
    | some f => rw [hlo] at h1; exact ⟨f, rfl, h1.symm⟩
  obtain ⟨f, hf1, rfl⟩ := hfd2
  have HF1 := hid hf1
  have hfl : f < s.files.length := HW.out.lt f (look_cnt HW.out hf1)
  have HFLT := hid hfl
  clear hlk hfn hf1 hfl
  obtain rfl : me = 0 := by rw [← HME.out]; unfold missP; rw [HF1.out]; rfl
  go_wp2_with fail
  refine (show Calls Tryz.prog 62 #[pv r, .int .i64 (0 : Int)] _ fun e w' => CanP B _ r x (er, s1) e w' from by have := rcan_any 0 H1.out HFU.out; rw [HCC.out] at this; exact this).mono ?_
  rintro e w2 ⟨rfl, h1, f1⟩
  dsimp only at h1 ⊢
  have H2 := hid h1
  have F2 : Hid (Fr [r] w w2) := hid ((Ext.fr HE1.out).trans f1)
  clear h1 f1
  by_cases her : er = 0
  case neg =>
    have be : ((er : Int) == 0) = false := by simp; omega
    have HD2 : Hid (synP s n = (er, s1)) := hid (by rw [HDO.out, if_neg her])
    clear her
    go_wp2
    go_ret
    unfold RDo
    rw [HD2.out]
    exact ⟨rfl, ⟨x, H2.out, Nw.refl _ _⟩, F2.out.mono (by simp)⟩
  subst her
  have hfs : s1.files = s.files := HCD.out.2.2.1
  have hfl1 : f < s1.files.length := by rw [hfs]; exact HFLT.out
  obtain ⟨a, fcap, g, hvf, hag, hle, hmx, hfc⟩ := H2.out.fc hfl1
  have hfb := H2.out.fb f hfl1
  obtain ⟨bs, hbs⟩ : ∃ b, s1.files[f].1 = b := ⟨_, rfl⟩
  obtain ⟨ks, hks⟩ : ∃ k, s1.files[f].2 = k := ⟨_, rfl⟩
  rw [hbs] at hfb
  rw [hks] at hfc
  have HBS := hid (And.intro hbs hks)
  have HBL : Hid (ks ≤ bs.length ∧ bs.length ≤ 1048576) := hid (by rw [← hbs, ← hks]; exact HW.out.fl _ (by rw [← hfs]; exact List.getElem_mem hfl1))
  obtain ⟨bl, hbl⟩ : ∃ k, bs.length = k := ⟨_, rfl⟩
  have HBLE := hid hbl
  have HOWN := hid hfb
  obtain ⟨fo, fcc, hfv⟩ : ∃ o c, x.fv.getD f nilV = .slice o bl c := by obtain ⟨o, c, e⟩ := row_shape hfb; exact ⟨o, c, by rw [e, hbl]⟩
  rw [hfv] at hfc hfb
  have HFV := hid hfv
  have HOW2 := hid hfb
  have HVF := hid hvf
  have HAG := hid hag
  have HFC := hid hfc
  have HFL1 := hid hfl1
  obtain ⟨nf, hnf⟩ : ∃ k, s1.files.length = k := ⟨_, rfl⟩
  have HNF := hid hnf
  rw [hnf] at hfl1 hle hvf
  have hfi : (f : Int) < nf := by omega
  obtain ⟨⟨-, c1, -, -, -⟩, -⟩ := lk5 H2.out.hd
  rw [hvf] at c1
  have C1 := hid c1
  have hblb : bl ≤ 1048576 := by rw [← hbl]; exact HBL.out.2
  clear c1 hfs hfb hbs hks hbl hfv hvf hag hfc hnf
  have HD2 : Hid (synP s n = (0, ({ s1 with files := s1.files.set f (bs, bl) } : PS))) := hid (by
    rw [HDO.out, if_pos rfl]
    have e1 : look s1.dir n = some f := by rw [HCD.out.1]; exact HF1.out
    simp only [e1, setF]
    rw [modify_set _ _ HFL1.out, HBS.out.1, HBLE.out])
  go_wp2_with fail
  refine ParE.wp_region_e (l := [_, _, _, _, _, _, _, _, _, _, _, _, _, _, _, _, _]) rfl (Rg.Ch [16] [] (OneQ w2 fun w' => RD B w' r x ({ s1 with files := s1.files.set f (bs, bl) } : PS) ∧ Fr (r :: oB x.vf) w2 w')) (ParC.VC [ParC.EQ (pv r), ParC.EQ (pv r), ParC.EQ (Value.pointer (some ⟨r, 1, none⟩)), ParC.EQ (Value.slice (some a) nf fcap), ParC.EQ (Value.int IntKind.i64 (f : Int)), ParC.EQ (pv r), ParC.EQ (pv r), ParC.EQ (Value.pointer (some ⟨r, 1, none⟩)), ParC.EQ (Value.slice (some a) nf fcap), ParC.EQ (Value.int IntKind.i64 (f : Int)), ParC.EQ (Value.pointer (some (a.add (f * 2)))), ParC.EQ (Value.pointer (some (a.add (f * 2)))), ParC.EQ (Value.slice fo bl fcc), ParC.EQ (Value.int IntKind.i64 (bl : Int)), ParC.EQ (Value.pointer (some (a.add (f * 2)))), ParC.EQ (Value.pointer (some ⟨(a.add (f * 2)).block, (a.add (f * 2)).off + 1, none⟩)), fun _ => True]) (by kernel_rfl) (by kernel_rfl) (Rg.Ch.start ⟨fun _ => Ext.draw _, trivial⟩) ?_ ?_
  · refine ⟨fun L ρ w' hR hC hL hd hk => ?_, ?_⟩
    · exact Par.val_of_run rfl ⟨hR.other (by decide), hk.1⟩
    refine ⟨fun L ρ w' hR hC hL hd hk => ?_, ?_⟩
    · obtain ⟨k0, -⟩ := hk
      have e0 : ρ (.tmp 17) = pv r := k0
      clear k0
      refine Par.val_k fun K hK => ?_
      unfold Par.val
      (go_simp; exact hK _ _ ⟨hR.other (by decide), rfl⟩)
    refine ⟨fun L ρ w' hR hC hL hd hk => ?_, ?_⟩
    · obtain ⟨k0, -⟩ := hk
      have e0 : ρ (.tmp 18) = pv r := k0
      clear k0
      refine Par.val_k fun K hK => ?_
      unfold Par.val
      (go_simp; exact hK _ _ ⟨hR.other (by decide), rfl⟩)
    refine ⟨fun L ρ w' hR hC hL hd hk => ?_, ?_⟩
    · obtain ⟨k0, -⟩ := hk
      have e0 : ρ (.tmp 19) = Value.pointer (some ⟨r, 1, none⟩) := k0
      clear k0
      refine Par.val_k fun K hK => ?_
      unfold Par.val
      (obtain ⟨i, hi, hq⟩ := hR.some 0 rfl (hC.notyet 16 3 hL (by kernel_rfl)); have cc := (hq.1 (by omega)).cell C1.out; go_simp; exact hK _ _ ⟨hR.other (by decide), rfl⟩)
    refine ⟨fun L ρ w' hR hC hL hd hk => ?_, ?_⟩
    · exact Par.val_of_run rfl ⟨hR.other (by decide), hk.1⟩
    refine ⟨fun L ρ w' hR hC hL hd hk => ?_, ?_⟩
    · exact Par.val_of_run rfl ⟨hR.other (by decide), hk.1⟩
    refine ⟨fun L ρ w' hR hC hL hd hk => ?_, ?_⟩
    · obtain ⟨k0, -⟩ := hk
      have e0 : ρ (.tmp 22) = pv r := k0
      clear k0
      refine Par.val_k fun K hK => ?_
      unfold Par.val
      (go_simp; exact hK _ _ ⟨hR.other (by decide), rfl⟩)
    refine ⟨fun L ρ w' hR hC hL hd hk => ?_, ?_⟩
    · obtain ⟨k0, -⟩ := hk
      have e0 : ρ (.tmp 23) = pv r := k0
      clear k0
      refine Par.val_k fun K hK => ?_
      unfold Par.val
      (go_simp; exact hK _ _ ⟨hR.other (by decide), rfl⟩)
    refine ⟨fun L ρ w' hR hC hL hd hk => ?_, ?_⟩
    · obtain ⟨k0, -⟩ := hk
      have e0 : ρ (.tmp 24) = Value.pointer (some ⟨r, 1, none⟩) := k0
      clear k0
      refine Par.val_k fun K hK => ?_
      unfold Par.val
      (obtain ⟨i, hi, hq⟩ := hR.some 0 rfl (hC.notyet 16 8 hL (by kernel_rfl)); have cc := (hq.1 (by omega)).cell C1.out; go_simp; exact hK _ _ ⟨hR.other (by decide), rfl⟩)
    refine ⟨fun L ρ w' hR hC hL hd hk => ?_, ?_⟩
    · exact Par.val_of_run rfl ⟨hR.other (by decide), hk.1⟩
    refine ⟨fun L ρ w' hR hC hL hd hk => ?_, ?_⟩
    · obtain ⟨k0, k1, -⟩ := hk
      have e0 : ρ (.tmp 25) = Value.slice (some a) nf fcap := k0
      have e1 : ρ (.tmp 26) = Value.int IntKind.i64 (f : Int) := k1
      clear k0 k1
      refine Par.val_k fun K hK => ?_
      unfold Par.val
      (go_simp; exact hK _ _ ⟨hR.other (by decide), rfl⟩)
    refine ⟨fun L ρ w' hR hC hL hd hk => ?_, ?_⟩
    · obtain ⟨k0, -⟩ := hk
      have e0 : ρ (.tmp 27) = Value.pointer (some (a.add (f * 2))) := k0
      clear k0
      refine Par.val_k fun K hK => ?_
      unfold Par.val
      (go_simp; exact hK _ _ ⟨hR.other (by decide), rfl⟩)
    refine ⟨fun L ρ w' hR hC hL hd hk => ?_, ?_⟩
    · obtain ⟨k0, -⟩ := hk
      have e0 : ρ (.tmp 28) = Value.pointer (some (a.add (f * 2))) := k0
      clear k0
      refine Par.val_k fun K hK => ?_
      unfold Par.val
      (obtain ⟨i, hi, hq⟩ := hR.some 0 rfl (hC.notyet 16 12 hL (by kernel_rfl)); have cc := (HFC.out.ext (hq.1 (by omega))).c0; go_simp; exact hK _ _ ⟨hR.other (by decide), rfl⟩)
    refine ⟨fun L ρ w' hR hC hL hd hk => ?_, ?_⟩
    · obtain ⟨k0, -⟩ := hk
      have e0 : ρ (.tmp 29) = Value.slice fo bl fcc := k0
      clear k0
      refine Par.val_k fun K hK => ?_
      unfold Par.val
      (go_simp; exact hK _ _ ⟨hR.other (by decide), rfl⟩)
    refine ⟨fun L ρ w' hR hC hL hd hk => ?_, ?_⟩
    · obtain ⟨k0, k1, -⟩ := hk
      have e0 : ρ (.tmp 20) = Value.slice (some a) nf fcap := k0
      have e1 : ρ (.tmp 21) = Value.int IntKind.i64 (f : Int) := k1
      clear k0 k1
      refine Par.val_k fun K hK => ?_
      unfold Par.val
      (go_simp; exact hK _ _ ⟨hR.other (by decide), rfl⟩)
    refine ⟨fun L ρ w' hR hC hL hd hk => ?_, ?_⟩
    · obtain ⟨k0, -⟩ := hk
      have e0 : ρ (.tmp 31) = Value.pointer (some (a.add (f * 2))) := k0
      clear k0
      refine Par.val_k fun K hK => ?_
      unfold Par.val
      (go_simp; exact hK _ _ ⟨hR.other (by decide), rfl⟩)
    refine ⟨fun L ρ w' hR hC hL hd hk => ?_, ?_⟩
    · obtain ⟨k0, k1, -⟩ := hk
      have e0 : ρ (.tmp 32) = Value.pointer (some ⟨(a.add (f * 2)).block, (a.add (f * 2)).off + 1, none⟩) := k0
      have e1 : ρ (.tmp 30) = Value.int IntKind.i64 (bl : Int) := k1
      clear k0 k1
      refine Par.val_k fun K hK => ?_
      unfold Par.val
      (obtain ⟨hq, hs⟩ := hR.go 0 rfl hL (.inl rfl) (by decide); have hx := hq.1 (by decide); have hfc := HFC.out.ext hx; have cc := hfc.c1; have ff := hfc.f1; have hres := hid ((H2.out.ext hx).set1 HFL1.out (HVF.out.trans (by rw [HAG.out])) bl); have hadr : Hid ((⟨(a.add (f * 2)).block, (a.add (f * 2)).off + 1, none⟩ : Addr) = ⟨g, f * 2 + 1, none⟩) := hid (by rw [HAG.out, addr0]); clear hfc; go_simp; rw [hadr.out]; exact hK _ _ ⟨hs none _ _ ⟨fun h => absurd h (by decide), by have := hres.out; rw [HBS.out.1] at this; exact ⟨this.1, (Ext.fr hx).trans this.2⟩⟩, trivial⟩)
    trivial
  intro a' w' inv hR
  have q17 : a'.tmps.getD 17 undef = pv r := inv.done 0 _ 17 rfl rfl rfl
  have q18 : a'.tmps.getD 18 undef = pv r := inv.done 1 _ 18 rfl rfl rfl
  have q19 : a'.tmps.getD 19 undef = Value.pointer (some ⟨r, 1, none⟩) := inv.done 2 _ 19 rfl rfl rfl
  have q20 : a'.tmps.getD 20 undef = Value.slice (some a) nf fcap := inv.done 3 _ 20 rfl rfl rfl
  have q21 : a'.tmps.getD 21 undef = Value.int IntKind.i64 (f : Int) := inv.done 4 _ 21 rfl rfl rfl
  have q22 : a'.tmps.getD 22 undef = pv r := inv.done 5 _ 22 rfl rfl rfl
  have q23 : a'.tmps.getD 23 undef = pv r := inv.done 6 _ 23 rfl rfl rfl
  have q24 : a'.tmps.getD 24 undef = Value.pointer (some ⟨r, 1, none⟩) := inv.done 7 _ 24 rfl rfl rfl
  have q25 : a'.tmps.getD 25 undef = Value.slice (some a) nf fcap := inv.done 8 _ 25 rfl rfl rfl
  have q26 : a'.tmps.getD 26 undef = Value.int IntKind.i64 (f : Int) := inv.done 9 _ 26 rfl rfl rfl
  have q27 : a'.tmps.getD 27 undef = Value.pointer (some (a.add (f * 2))) := inv.done 10 _ 27 rfl rfl rfl
  have q28 : a'.tmps.getD 28 undef = Value.pointer (some (a.add (f * 2))) := inv.done 11 _ 28 rfl rfl rfl
  have q29 : a'.tmps.getD 29 undef = Value.slice fo bl fcc := inv.done 12 _ 29 rfl rfl rfl
  have q30 : a'.tmps.getD 30 undef = Value.int IntKind.i64 (bl : Int) := inv.done 13 _ 30 rfl rfl rfl
  have q31 : a'.tmps.getD 31 undef = Value.pointer (some (a.add (f * 2))) := inv.done 14 _ 31 rfl rfl rfl
  have q32 : a'.tmps.getD 32 undef = Value.pointer (some ⟨(a.add (f * 2)).block, (a.add (f * 2)).off + 1, none⟩) := inv.done 15 _ 32 rfl rfl rfl
  clear inv
  simp only [List.filterMap_cons, List.filterMap_nil, Par.putAll, Act.put, List.setIfInBounds_toArray, List.set_cons_succ, List.set_cons_zero, q17, q18, q19, q20, q21, q22, q23, q24, q25, q26, q27, q28, q29, q30, q31, q32]
  clear q17 q18 q19 q20 q21 q22 q23 q24 q25 q26 q27 q28 q29 q30 q31 q32
  obtain ⟨-, hrd, hf⟩ := Rg.Ch.fin hR (by decide) 1 rfl; have HRD := hid hrd; have HF := hid hf; clear hrd hf hR
  try clear a'
  go_wp2
  go_ret
  unfold RDo
  rw [HD2.out]
  exact ⟨rfl, ⟨x, HRD.out, Nw.refl _ _⟩, (F2.out.mono (by simp)).trans HF.out⟩

end Go.Proofs.YtijpokajhjhllaaGreatDoor

set_option linter.unusedSimpArgs false
set_option linter.unusedVariables false
namespace Go.Proofs.YtijpokajhjhllaaGreatDoor
open Go Go.RowKit Go.Tum Go.ChangeMaps
open Go.ParB (upd Lof)
open Go.ParE (putS slotsR slots Closed)

theorem byt_take {w : World} {ao : Option Addr} {n cap : Nat} {l : List UInt8} (h : Byt w (.slice ao n cap) l) (hi : Nat) (h2 : hi ≤ l.length) : Byt w (.slice ao hi cap) (l.take hi) := by
  have := Byt.part h 0 hi (Nat.zero_le _) h2 ao (by split <;> cases ao <;> simp [Addr.add])
  simpa using this
theorem flen_at {fs : List (List UInt8 × Nat)} {f : Nat} (h : f < fs.length) : flen fs f = fs[f].1.length := by
  unfold flen
  rw [List.getD_eq_getElem?_getD, List.getElem?_eq_getElem h]
  rfl
/-- A new slice of bytes is made and stored: slots d0 (empty), d1. -/
def FilQ (W : World) (d0 d1 : Nat) (l : List UInt8) (P : World → Prop) (i : Nat) (σ : Nat → Value) (w' : World) : Prop := (i < 3 → Ext W w') ∧ match i with
  | 1 => Own w' W.heap.size 5 (σ d0) []
  | 2 => Own w' W.heap.size 5 (σ d1) l
  | 3 => P w'
  | _ => True
theorem run_app_b (W : World) (ty : Nat) {w : World} {v u : Value} {l1 l2 : List UInt8} (hx : Ext W w) (hown : Own w W.heap.size 5 v l1) (hsl : Byt w u l2) (hb : l1.length + l2.length ≤ 140737488355328) :
    ∃ v' w', (Builtin.append_ #[37, 37] ty #[v, u]).run Tryz.prog w = .ok v' w' ∧ Own w' W.heap.size 5 v' (l1 ++ l2) ∧ Ext W w' := by
  obtain ⟨v', w', h1, h2, h3, -⟩ := run_app_u8 W.heap.size ty hown hsl hb hx.size
  exact ⟨v', w', h1, h2, Below.trans hx (h3.below (row_lo hown) hx.size)⟩
end Go.Proofs.YtijpokajhjhllaaGreatDoor

set_option linter.unusedSimpArgs false
set_option linter.unusedVariables false
namespace Go.Proofs.YtijpokajhjhllaaGreatDoor
open Go Go.RowKit Go.Tum Go.ChangeMaps

abbrev dirK (s : PS) (k : Nat) : Dir := dirAt s.sure (s.opn.take k)
def inDir (d : Dir) (f : Nat) : Bool := d.any fun z => z.2 == f
/-- Is it in one of the first m directories? -/
def inUp (s : PS) (m f : Nat) : Bool := (List.range m).any fun k => inDir (dirK s k) f
def hsum (s : PS) (n : Nat) : Nat := sumL s.files ((List.range n).filter fun f => inUp s (s.opn.length + 1) f)
theorem inUp_succ (s : PS) (m f : Nat) : inUp s (m + 1) f = (inUp s m f || inDir (dirK s m) f) := by
  unfold inUp; rw [List.range_succ, List.any_append]; simp
theorem inDir_succ (d : Dir) (q f : Nat) (h : q < d.length) : inDir (d.take (q + 1)) f = (inDir (d.take q) f || (d[q].2 == f)) := by
  unfold inDir; rw [List.take_succ_eq_append_getElem h, List.any_append]; simp
theorem hsum_succ (s : PS) (n : Nat) : hsum s (n + 1) = hsum s n + if inUp s (s.opn.length + 1) n then flen s.files n else 0 := by
  unfold hsum sumL
  rw [List.range_succ, List.filter_append, List.map_append, List.sum_append]
  congr 1
  rw [List.filter_cons]
  split <;> simp
theorem hsum_le {s : PS} (hw : WF s) (n : Nat) : hsum s n ≤ n * 1048576 := by
  induction n with
  | zero => rw [show hsum s 0 = 0 from rfl]; exact Nat.zero_le _
  | succ n ih =>
    rw [hsum_succ]
    have : flen s.files n ≤ 1048576 := by
      unfold flen
      by_cases h : n < s.files.length
      · exact (hw.fl _ (getD_mem h)).2
      · rw [List.getD_eq_getElem?_getD, List.getElem?_eq_none (by omega)]; exact Nat.zero_le _
    rw [Nat.succ_mul]
    refine Nat.add_le_add ih ?_
    split
    · exact this
    · exact Nat.zero_le _
theorem inDir_mem {d : Dir} {f : Nat} : inDir d f = true ↔ f ∈ d.map Prod.snd := by
  unfold inDir
  rw [List.any_eq_true, List.mem_map]
  constructor
  · rintro ⟨z, h1, h2⟩; exact ⟨z, h1, by simpa using h2⟩
  · rintro ⟨z, h1, h2⟩; exact ⟨z, h1, by simpa using h2⟩
theorem inUp_mem {s : PS} (hw : WF s) (f : Nat) : inUp s (s.opn.length + 1) f = true ↔ f ∈ cntd s := by
  unfold inUp
  rw [List.any_eq_true]
  constructor
  · rintro ⟨k, hk, h⟩
    rw [inDir_mem] at h
    obtain ⟨z, hz, rfl⟩ := List.mem_map.1 h
    exact cnk_sub ((hw.px k).nm z hz).2
  · intro h
    unfold cntd at h
    rcases List.mem_append.1 h with h | h
    · exact ⟨0, by simp, inDir_mem.2 h⟩
    · obtain ⟨c, hc, e⟩ := List.mem_filterMap.1 h
      obtain ⟨j, hj, rfl⟩ := List.mem_iff_getElem.1 hc
      refine ⟨j + 1, by simp; omega, inDir_mem.2 ?_⟩
      have e1 : dirK s (j + 1) = appC (dirK s j) s.opn[j] := by
        unfold dirK dirAt
        rw [List.take_succ_eq_append_getElem hj, List.foldl_append]; rfl
      have hf : s.opn[j].file = some f := by
        by_cases hfr : s.opn[j].frm = []
        · rw [if_pos hfr] at e; exact e
        · rw [if_neg hfr] at e; cases e
      rw [e1]
      unfold appC
      rw [hf]
      exact List.mem_map.2 ⟨(s.opn[j].to, f), inN_mem.2 (.inl rfl), rfl⟩
theorem hsum_all {s : PS} (hw : WF s) : hsum s s.files.length = held s := by
  unfold hsum held sumL
  refine perm_sum (List.Perm.map _ ?_)
  refine (List.perm_ext_iff_of_nodup (List.nodup_range.sublist List.filter_sublist) hw.nd).2 fun f => ?_
  rw [List.mem_filter, inUp_mem hw, List.mem_range]
  exact ⟨fun h => h.2, fun h => ⟨hw.lt f h, h⟩⟩
/-- What a walk reads of the directories. -/
theorem RD.dirs {B : Nat} {w : World} {r : Nat} {x : RX} {s : PS} (h : RD B w r x s) : ∃ a cap, x.vd = .slice (some a) (s.opn.length + 1) cap ∧ s.opn.length + 1 ≤ cap ∧ cap ≤ 9223372036854775807 ∧
    ∀ k, k < s.opn.length + 1 → ∃ o c, w.cell? (a.add k) = some (.slice o (dirK s k).length c) ∧ (dirK s k).length ≤ c ∧ c ≤ 9223372036854775807 ∧ (0 < (dirK s k).length → ∃ b, o = some b) ∧
      ∀ b, o = some b → ∀ q (hq : q < (dirK s k).length), w.cell? (b.add (q * 2)) = some (vN (dirK s k)[q].1) ∧ w.cell? ⟨(b.add (q * 2)).block, (b.add (q * 2)).off + 1, none⟩ = some (.int .i64 ((dirK s k)[q].2 : Int)) := by
  have hrow : OwV id w B 72 x.vd x.dv := by unfold OwV; simpa using h.dr
  obtain ⟨ao, cap, hv, hle, hm, hnn, hcell⟩ := hrow.vec.open
  have hn := h.dn
  obtain ⟨a, rfl⟩ := hnn (by omega)
  refine ⟨a, cap, by rw [hv, hn], by omega, hm, fun k hk => ?_⟩
  have cc := hcell a rfl k (by omega)
  have hd := h.dd k (by omega)
  have hR : RowsOf w 2 (x.dv.getD k nilV) ecells (dirK s k) := ⟨fun _ _ => rfl, Sl.of_owns hd⟩
  obtain ⟨o, c, e, h1, h2, h3, h4⟩ := hR.open
  have e1 : x.dv[k]'(by omega) = x.dv.getD k nilV := by rw [List.getD_eq_getElem?_getD, List.getElem?_eq_getElem (by omega)]; rfl
  refine ⟨o, c, ?_, h1, h2, fun h0 => h3 (by omega), fun b hb q hq => ⟨cell_first (h4 b hb q hq 0 _ rfl), cell_next (h4 b hb q hq 1 _ rfl) (by decide)⟩⟩
  rw [← e, ← e1]; exact cc
set_option maxHeartbeats 1000000 in
theorem rheld_any {B : Nat} {w : World} {r : Nat} {x : RX} {s : PS} (h : RD B w r x s) (hw : WF s) (hfl : s.files.length ≤ 100000) (hl : s.opn.length ≤ 100000) :
    Calls Tryz.prog 31 #[pv r] w fun e w' => e = .returned (.int .i64 (held s : Nat)) ∧ w = w' := by
  obtain ⟨⟨-, c1, c2, -, -⟩, -⟩ := lk5 h.hd
  obtain ⟨nf, hnf⟩ : ∃ k, s.files.length = k := ⟨_, rfl⟩
  obtain ⟨m, hm⟩ : ∃ k, s.opn.length + 1 = k := ⟨_, rfl⟩
  have HNF := hid hnf
  have HM := hid hm
  have HW := hid hw
  have HH := hid h
  obtain ⟨ad, dcap, hvd, hle, hmx, hdd⟩ := h.dirs
  have HDD := hid hdd
  have hfv : ∃ o c, x.vf = .slice o nf c ∧ nf ≤ c ∧ c ≤ 9223372036854775807 ∧ (0 < nf → ∃ a, o = some a) := by
    have hv := Sl.of_owns h.fr
    obtain ⟨-, o, c, e, k1, k2, k3, -⟩ := hv
    refine ⟨o, c, by rw [e, hnf], by omega, by simpa [maxLen] using k2, fun h0 => ?_⟩
    cases o with
    | none => have := k3 rfl; omega
    | some a => exact ⟨a, rfl⟩
  obtain ⟨fo, fcap, hvf, hlf, hmf, hfo⟩ := hfv
  have HVF := hid hvf
  have HFO := hid hfo
  rw [hvf] at c1
  rw [hvd, hm] at c2
  rw [hm] at hle
  have hfl' : nf ≤ 100000 := by omega
  have hl' : m ≤ 100001 := by omega
  have HALL : Hid (held s = hsum s nf) := hid (by rw [← hnf, hsum_all hw])
  clear h hw hdd hfo hvf hvd hfl hl hnf hm
  go_enter Tryz.func31, Tryz.ntmps31
  go_wp2
  go_loopw [3, 4] (fun n f wr => ∃ k : Nat, k ≤ nf ∧ f = .int .i64 k ∧ n = .int .i64 (hsum s k : Nat) ∧ wr = w) (fun n f _ => nf - (intOf f).toNat)
  case atStart => exact ⟨0, by omega, rfl, rfl, rfl⟩
  case round =>
    obtain ⟨k, hk, rfl, rfl, rfl⟩ := hrel
    have HK := hid hk
    by_cases hlt : k < nf
    · have HLT := hid hlt
      have hki : (k : Int) < nf := by omega
      go_wp2
      go_loopw [5, 6] (fun t i w9 => ∃ j : Nat, j ≤ m ∧ i = .int .i64 j ∧ t = .bool (inUp s j k) ∧ w9 = wr) (fun t i _ => m - (intOf i).toNat)
      case atStart => exact ⟨0, by omega, rfl, rfl, rfl⟩
      case round =>
        obtain ⟨j, hj, rfl, rfl, rfl⟩ := hrel
        by_cases hjl : j < m
        · have hji : (j : Int) < m := by omega
          obtain ⟨o, c, d0, d1, d2, d3, d4⟩ := HDD.out j (by have := HM.out; omega)
          obtain ⟨D, hD⟩ : ∃ D, dirK s j = D := ⟨_, rfl⟩
          rw [hD] at d0 d1 d3
          have HD := hid hD
          have D3 := hid d3
          have D4 : Hid (∀ b, o = some b → ∀ q (hq : q < D.length), wr.cell? ⟨(b.add (q * 2)).block, (b.add (q * 2)).off + 1, none⟩ = some (.int .i64 (D[q].2 : Int))) := hid (by subst hD; exact fun b hb q hq => (d4 b hb q hq).2)
          obtain ⟨dl, hdl⟩ : ∃ k, D.length = k := ⟨_, rfl⟩
          have HDL := hid hdl
          rw [hdl] at d0 d1
          clear d3 d4 hD hdl
          go_wp2
          go_loopw [5, 7] (fun t i w8 => ∃ q : Nat, q ≤ dl ∧ i = .int .i64 q ∧ t = .bool (inUp s j k || inDir (D.take q) k) ∧ w8 = wr) (fun t i _ => dl - (intOf i).toNat)
          case atStart => exact ⟨0, by omega, rfl, by simp [inDir], rfl⟩
          case round =>
            obtain ⟨q, hq, rfl, rfl, rfl⟩ := hrel
            by_cases hql : q < dl
            · have hqi : (q : Int) < dl := by omega
              have hqD : q < D.length := by rw [HDL.out]; exact hql
              obtain ⟨b, rfl⟩ := D3.out (by omega)
              have c5 := D4.out b rfl q hqD
              have hsu := inDir_succ D q k hqD
              obtain ⟨z, hz⟩ : ∃ z, (D[q]'hqD).2 = z := ⟨_, rfl⟩
              rw [hz] at c5 hsu
              have HSU := hid hsu
              clear hsu hz hqD
              obtain ⟨bb, hbb⟩ : ∃ bb, (inUp s j k || inDir (D.take q) k) = bb := ⟨_, rfl⟩
              have HBB := hid hbb
              rw [hbb]
              clear hbb
              cases bb
              case true =>
                go_wp2
                go_roundw
                case rel => exact ⟨q + 1, by omega, by go_num, by rw [HSU.out, ← Bool.or_assoc, HBB.out]; rfl, trivial⟩
                case measure => simp [intOf]; omega
              case false =>
                by_cases hzk : z = k
                · have ez : (z == k) = true := by simpa using hzk
                  have HEZ := hid ez
                  clear hzk
                  go_wp2
                  go_roundw
                  case rel => exact ⟨q + 1, by omega, by go_num, by rw [HSU.out, ← Bool.or_assoc, HBB.out, HEZ.out]; first | rfl | (have := HEZ.out; simp at this ⊢; omega), trivial⟩
                  case measure => simp [intOf]; omega
                · have ez : (z == k) = false := by simpa using hzk
                  have HEZ := hid ez
                  clear hzk
                  go_wp2
                  go_roundw
                  case rel => exact ⟨q + 1, by omega, by go_num, by rw [HSU.out, ← Bool.or_assoc, HBB.out, HEZ.out]; first | rfl | (have := HEZ.out; simp at this ⊢; omega), trivial⟩
                  case measure => simp [intOf]; omega
            · obtain rfl : q = dl := by omega
              have HU : Hid ((inUp s j k || inDir (D.take q) k) = inUp s (j + 1) k) := hid (by rw [inUp_succ, HD.out, ← HDL.out, List.take_length])
              obtain ⟨bb, hbb⟩ : ∃ bb, (inUp s j k || inDir (D.take q) k) = bb := ⟨_, rfl⟩
              rw [hbb] at HU ⊢
              clear hbb
              go_wp2
              go_roundw
              case rel => exact ⟨j + 1, by omega, by go_num, by rw [HU.out], trivial⟩
              case measure => simp [intOf]; omega
        · obtain rfl : j = m := by omega
          have hkf : k < s.files.length := by rw [HNF.out]; exact HLT.out
          obtain ⟨a, fcap2, g, hvf, -, -, -, hfc⟩ := HH.out.fc hkf
          have hfb := HH.out.fb k hkf
          have hfle : flen s.files k = s.files[k].1.length := flen_at hkf
          have hbd := (HW.out.fl _ (List.getElem_mem hkf)).2
          obtain ⟨fl, hfl⟩ : ∃ n, flen s.files k = n := ⟨_, rfl⟩
          obtain ⟨o2, c3, hfv⟩ := row_shape hfb
          rw [← hfle, hfl] at hfv
          rw [← hfle, hfl] at hbd
          have HFL := hid hfl
          obtain ⟨cc, -, -, -⟩ := hfc
          rw [hfv] at cc
          have e1 := HVF.out
          rw [hvf] at e1
          cases e1
          have hsu := hsum_succ s k
          rw [HM.out, HFL.out] at hsu
          have HSU := hid hsu
          have hb := hsum_le HW.out k
          obtain ⟨hs, hhs⟩ : ∃ n, hsum s k = n := ⟨_, rfl⟩
          rw [hhs] at hb HSU ⊢
          have hb2 : hs ≤ 104857600000 := by omega
          clear hfb hfle hfl hfv hvf hsu hhs hkf hb
          cases hu : inUp s j k
          case true =>
            have HS2 : Hid (hsum s (k + 1) = hs + fl) := hid (by rw [HSU.out, hu]; rfl)
            clear hu
            go_wp2
            go_roundw
            case rel => exact ⟨k + 1, by omega, by go_num, by rw [HS2.out]; go_num, trivial⟩
            case measure => simp [intOf]; omega
          case false =>
            have HS2 : Hid (hsum s (k + 1) = hs) := hid (by rw [HSU.out, hu]; rfl)
            clear hu
            go_wp2
            go_roundw
            case rel => exact ⟨k + 1, by omega, by go_num, by rw [HS2.out], trivial⟩
            case measure => simp [intOf]; omega
    · obtain rfl : k = nf := by omega
      go_wp2
      go_ret
      exact ⟨by rw [HALL.out]; rfl, rfl⟩
end Go.Proofs.YtijpokajhjhllaaGreatDoor

