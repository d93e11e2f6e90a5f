/- The log of segments: first, At, Read. -/
import Derived.Test.YtmbigiihcplcjaaGreatDoorSegMA
import Derived.Test.YtmbigiihcplcjaaGreatDoorRgC
set_option linter.unusedSimpArgs false
set_option linter.unusedVariables false
set_option maxRecDepth 100000
namespace Go.Proofs.YtmbigiihcplcjaaGreatDoor
open Go Go.RowKit Go.Tum Go.ChangeMaps Go.Tum.Crc Go.Nam
open Go.ParB (upd Lof)
open Go.ParE (putS slotsR slots Closed)

theorem first_nil {b : List UInt8} {er : Int} (h : rall 0 (b.take 411) = ([], [], er)) : firstL b = (r0, 0, er) := by
  unfold firstL
  rw [h]
theorem first_cons {b : List UInt8} {x : Rc} {t : List Rc} {n : Nat} {t2 : List Nat} {er : Int} (h : rall 0 (b.take 411) = (x :: t, n :: t2, er)) : firstL b = (x, n, 0) := by
  unfold firstL
  rw [h]
def FstR (w : World) (r : Rc × Nat × Int) (e : Ending) (w' : World) : Prop := (∃ u, e = .returned (.tuple #[rv r.1 u, .int .i64 (r.2.1 : Nat), .int .i64 r.2.2]) ∧ Vec uv w' u r.1.n) ∧ Ext w w'
abbrev zR : Obj := .cells #[.int .i64 0, .slice none 0 0, .string ⟨#[]⟩] 41 (0, 0)
theorem set3 {w : World} {b : Nat} {v0 v1 v2 : Value} {ty : TypeId} (h : w.heap[b]? = some (.cells #[v0, v1, v2] ty (0, 0))) (u0 u1 u2 : Value) :
    (((w.setCell ⟨b, 0, none⟩ u0).setCell ⟨b, 1, none⟩ u1).setCell ⟨b, 2, none⟩ u2).heap[b]? = some (.cells #[u0, u1, u2] ty (0, 0)) := by
  have h1 := Go.Joins.block_setCell (i := 2) (Go.Joins.block_setCell (i := 1) (Go.Joins.block_setCell (i := 0) h u0) u1) u2
  simpa using h1
theorem fr3 (w : World) (b : Nat) (u0 u1 u2 : Value) : Fr [b] w (((w.setCell ⟨b, 0, none⟩ u0).setCell ⟨b, 1, none⟩ u1).setCell ⟨b, 2, none⟩ u2) := by
  have f : ∀ (w : World) (i : Nat) (u : Value), Fr [b] w (w.setCell ⟨b, i, none⟩ u) := fun w i u => fr_setCell _ _ _ (by simp)
  exact ((f _ 0 u0).trans (f _ 1 u1)).trans (f _ 2 u2)
theorem ext3 {w0 w : World} {b : Nat} (u0 u1 u2 : Value) (h : Ext w0 w) (hb : w0.heap.size ≤ b) : Ext w0 (((w.setCell ⟨b, 0, none⟩ u0).setCell ⟨b, 1, none⟩ u1).setCell ⟨b, 2, none⟩ u2) :=
  Below.trans h ((fr3 w b u0 u1 u2).below (by simpa using hb) h.size)
theorem res_first (tmps : Array Value) (w : World) (B : Nat) (p q s : Value) (h2 : tmps.getD 2 undef = .pointer (some ⟨B, 0, none⟩)) (m : w.heap[B]? = some (.cells #[p, q, s] 41 (0, 0))) :
    (results Tryz.f76 tmps).run Tryz.prog w = .ok (.tuple #[.agg #[p, q, s], tmps.getD 3 undef, tmps.getD 4 undef]) w := by
  have h2' : tmps[2]?.getD undef = .pointer (some ⟨B, 0, none⟩) := by simpa using h2
  have m0 : w.cell? ⟨B, 0, none⟩ = some p := by rw [cell_of_row _ _ _ _ _ _ m]; rfl
  have m1 : w.cell? ⟨B, 1, none⟩ = some q := by rw [cell_of_row _ _ _ _ _ _ m]; rfl
  have m2 : w.cell? ⟨B, 2, none⟩ = some s := by rw [cell_of_row _ _ _ _ _ _ m]; rfl
  simp [results, Tryz.results76, go_sem, h2', m0, m1, m2]
theorem res_at (tmps : Array Value) (w : World) (B : Nat) (p q s : Value) (h2 : tmps.getD 6 undef = .pointer (some ⟨B, 0, none⟩)) (m : w.heap[B]? = some (.cells #[p, q, s] 41 (0, 0))) :
    (results Tryz.f37 tmps).run Tryz.prog w = .ok (.tuple #[.agg #[p, q, s], tmps.getD 7 undef, tmps.getD 8 undef]) w := by
  have h2' : tmps[6]?.getD undef = .pointer (some ⟨B, 0, none⟩) := by simpa using h2
  have m0 : w.cell? ⟨B, 0, none⟩ = some p := by rw [cell_of_row _ _ _ _ _ _ m]; rfl
  have m1 : w.cell? ⟨B, 1, none⟩ = some q := by rw [cell_of_row _ _ _ _ _ _ m]; rfl
  have m2 : w.cell? ⟨B, 2, none⟩ = some s := by rw [cell_of_row _ _ _ _ _ _ m]; rfl
  simp [results, Tryz.results37, go_sem, h2', m0, m1, m2]
theorem res_read (tmps : Array Value) (w : World) (B : Nat) (p q s : Value) (h2 : tmps.getD 6 undef = .pointer (some ⟨B, 0, none⟩)) (m : w.heap[B]? = some (.cells #[p, q, s] 41 (0, 0))) :
    (results Tryz.f31 tmps).run Tryz.prog w = .ok (.tuple #[.agg #[p, q, s], tmps.getD 7 undef, tmps.getD 8 undef]) w := by
  have h2' : tmps[6]?.getD undef = .pointer (some ⟨B, 0, none⟩) := by simpa using h2
  have m0 : w.cell? ⟨B, 0, none⟩ = some p := by rw [cell_of_row _ _ _ _ _ _ m]; rfl
  have m1 : w.cell? ⟨B, 1, none⟩ = some q := by rw [cell_of_row _ _ _ _ _ _ m]; rfl
  have m2 : w.cell? ⟨B, 2, none⟩ = some s := by rw [cell_of_row _ _ _ _ _ _ m]; rfl
  simp [results, Tryz.results31, go_sem, h2', m0, m1, m2]
theorem Sl.at0 {w : World} {size g n m cap : Nat} {xs : List Value} (h : Sl w size (.slice (some ⟨g, 0, none⟩) m cap) n xs) (j : Nat) {u : Value} (hu : xs[j]? = some u) : w.cell? ⟨g, j, none⟩ = some u := by
  obtain ⟨-, ao, cap', hv, -, -, -, hc⟩ := h
  simp only [Value.slice.injEq] at hv
  obtain ⟨rfl, -, -⟩ := hv
  have := hc _ rfl j u hu
  have ea : (⟨g, 0, none⟩ : Addr).add j = ⟨g, j, none⟩ := by unfold Addr.add; split <;> simp_all
  rwa [ea] at this
theorem RcsO.first {w : World} {B T : Nat} {ao : Option Addr} {n cap : Nat} {x : Rc} {t : List Rc} (h : RcsO w B T (.slice ao n cap) (x :: t)) : ∃ g u, ao = some ⟨g, 0, none⟩ ∧ w.cell? ⟨g, 0, none⟩ = some (.int .i64 x.kind) ∧ w.cell? ⟨g, 1, none⟩ = some u ∧ w.cell? ⟨g, 2, none⟩ = some (.string (str x.text)) ∧ Vec uv w u x.n ∧ B ≤ g := by
  obtain ⟨m, hm, hr, hv⟩ := h
  cases m with
  | nil => cases hm
  | cons q m =>
    rw [List.map_cons] at hm
    simp only [List.cons.injEq] at hm
    obtain ⟨rfl, -⟩ := hm
    have hr0 := hr
    rcases hr.2 with ⟨hv2, hz⟩ | ⟨g, cap', cur, hv2, hb, hgg, -⟩
    · rw [List.length_cons] at hz; omega
    · simp only [Value.slice.injEq] at hv2
      obtain ⟨rfl, -, rfl⟩ := hv2
      refine ⟨g, q.2, rfl, ?_, ?_, ?_, (hv q (by simp)).vec, hb⟩
      · exact Sl.at0 (Sl.of_owns hr0) 0 rfl
      · exact Sl.at0 (Sl.of_owns hr0) 1 rfl
      · exact Sl.at0 (Sl.of_owns hr0) 2 rfl
theorem owv_first {α : Type} {f : α → Value} {w : World} {B e : Nat} {ao : Option Addr} {n cap : Nat} {x : α} {t : List α} (h : OwV f w B e (.slice ao n cap) (x :: t)) : ∃ g, ao = some ⟨g, 0, none⟩ ∧ w.cell? ⟨g, 0, none⟩ = some (f x) ∧ B ≤ g := by
  rcases h.2 with ⟨hv2, hz⟩ | ⟨g, cap', cur, hv2, hb, hgg, -⟩
  · rw [List.length_cons] at hz; omega
  · have hv3 := hv2
    simp only [Value.slice.injEq] at hv3
    obtain ⟨rfl, -, rfl⟩ := hv3
    exact ⟨g, rfl, h.cell 0 (by simp), hb⟩
theorem cell_lt {w : World} {g j : Nat} {u : Value} (h : w.cell? ⟨g, j, none⟩ = some u) : g < w.heap.size := by
  unfold World.cell? at h
  dsimp only at h
  cases hg : w.heap[g]? with
  | none => rw [hg] at h; simp at h
  | some o => exact (Array.getElem?_eq_some_iff.1 hg).1
theorem fr_cell1 {w w' : World} {B g j : Nat} {u : Value} (f : Fr [B] w w') (hn : g ≠ B) (hl : g < w.heap.size) (h : w.cell? ⟨g, j, none⟩ = some u) : w'.cell? ⟨g, j, none⟩ = some u := by
  rw [f.cell (by simpa using hn) hl]; exact h
theorem add_block (a : Addr) (j : Nat) : (a.add j).block = a.block := by unfold Addr.add; split <;> rfl
/-- Numbers don't lie in a record's block. -/
theorem vecU_fr {w w' : World} {B : Nat} {u : Value} {l : List UInt64} (h : Vec uv w u l) (hb : w.heap[B]? = some zR) (f : Fr [B] w w') : Vec uv w' u l := by
  obtain ⟨hl, ao, cap, rfl, h3, h4, h5, h6⟩ := h
  refine ⟨hl, ao, cap, rfl, h3, h4, h5, fun a ha j x hx => ?_⟩
  have hc := h6 a ha j x hx
  rw [List.getElem?_map] at hx
  obtain ⟨y, -, rfl⟩ : ∃ y, l[j]? = some y ∧ uv y = x := by
    cases hy : l[j]? with
    | none => rw [hy] at hx; cases hx
    | some y => rw [hy] at hx; exact ⟨y, rfl, Option.some.inj hx⟩
  have hn : (a.add j).block ≠ B := fun e => by
    unfold World.cell? at hc
    rw [e, hb] at hc
    dsimp only at hc
    split at hc
    · cases hc
    · match ho : (a.add j).off with
      | 0 => rw [ho] at hc; cases hc
      | 1 => rw [ho] at hc; cases hc
      | 2 => rw [ho] at hc; cases hc
      | n + 3 => rw [ho] at hc; simp at hc
  have hlt : (a.add j).block < w.heap.size := by
    unfold World.cell? at hc
    cases hg : w.heap[(a.add j).block]? with
    | none => rw [hg] at hc; cases hc
    | some o => exact (Array.getElem?_eq_some_iff.1 hg).1
  rw [f.cell (by simpa using hn) hlt]
  exact hc
theorem vec_set3 {w : World} {B : Nat} {u : Value} {l : List UInt64} (h : Vec uv w u l) (hb : w.heap[B]? = some zR) (u0 u1 u2 : Value) : Vec uv (((w.setCell ⟨B, 0, none⟩ u0).setCell ⟨B, 1, none⟩ u1).setCell ⟨B, 2, none⟩ u2) u l   := vecU_fr h hb (fr3 w B u0 u1 u2)
/-- The result's cell may be set. -/
def FsQ (W : World) (B : Nat) (p q s : Value) (i : Nat) (_ : Nat → Value) (w' : World) : Prop := (i < 1 → Ext W w') ∧ Fr [B] W w' ∧ match i with
  | 1 => w'.heap[B]? = some (.cells #[p, q, s] 41 (0, 0))
  | _ => True
set_option maxHeartbeats 1000000 in
theorem sfirst_any (v : Value) (b : List UInt8) (w : World) (hv : Byt w v b) (hb : b.length ≤ 1048576) (ht : Tab w) :
    Calls Tryz.prog 76 #[v] w fun e w' => FstR w (firstL b) e w' := by
  obtain ⟨ao, cap, rfl, hle, hmx, hnn, -⟩ := hv.open
  obtain ⟨m, hm⟩ : ∃ m : Nat, min (b.length : Int) 411 = (m : Int) := ⟨min b.length 411, by omega⟩
  have hm1 : m ≤ b.length := by omega
  have hm2 : m = min 411 b.length := by omega
  have ht2 : b.take m = b.take 411 := by
    rw [hm2]
    by_cases e : 411 ≤ b.length
    · rw [Nat.min_eq_left e]
    · rw [Nat.min_eq_right (by omega), List.take_length, List.take_of_length_le (by omega)]
  have hp := Vec.take hv.vec m hm1
  have hmc : (m : Int) ≤ (cap : Int) := by omega
  have hm0 : (0 : Int) ≤ (m : Int) := by omega
  have HV := hid hp
  have HT := hid ht
  have HM := hid ht2
  have HML : Hid ((b.take m).length = m) := hid (by rw [List.length_take]; omega)
  have HM3 : Hid (m ≤ 411) := hid (by omega)
  obtain ⟨R, hR⟩ : ∃ R, firstL b = R := ⟨_, rfl⟩
  rw [hR]
  have HR := hid hR
  have HB0 := hid (heap_alloc_new w zR)
  have HE0 := hid (Ext.alloc w zR)
  clear hv hb ht hp ht2 hm2 hR
  go_enter Tryz.func76, Tryz.ntmps76
  go_wp2_with fail
  refine Calls.mono (all5_any _ (b.take m) _ (by have := (HV.out.ext HE0.out).byt; exact this) (by rw [HML.out]; have := HM3.out; omega) (HT.out.ext HE0.out)) ?_
  rintro e w1 ⟨u, t, rfl, h1, h2, h3⟩
  obtain ⟨ls, es, er, hra⟩ : ∃ ls es er, rall 0 (b.take m) = (ls, es, er) := ⟨_, _, _, rfl⟩
  have hlens := rall_lens (b.take m) 0
  rw [hra] at h1 h2 hlens
  rw [hra]
  rw [HM.out] at hra
  dsimp only at h1 h2 hlens ⊢
  obtain ⟨lo, lc, rfl⟩ := h1.open
  obtain ⟨eo, ec, rfl⟩ := h2.shape
  have HX := hid (HE0.out.trans h3)
  have HB1 := hid (h3.obj HB0.out)
  have HSZ : Hid (w.heap.size < (w.alloc (.cells #[Value.int IntKind.i64 0, Value.slice none 0 0, Value.string { data := #[] }] 41 (0, 0))).heap.size) := hid (by rw [World.size_alloc]; omega)
  cases ls with
  | nil =>
    cases es with
    | cons => cases hlens
    | nil =>
      have HF : Hid (R = (r0, 0, er)) := hid (by rw [← HR.out]; exact first_nil hra)
      clear h1 h2 hlens hra h3 hm hm1 hmc hm0
      obtain ⟨m0, m1, m2, mf⟩ := lk3 HB1.out
      go_wp2
      refine bodyPost_ret (res_first _ _ _ _ _ _ rfl (set3 HB1.out _ _ _)) rfl ?_
      rw [HF.out]
      exact ⟨⟨_, rfl, Vec.nil _⟩, ext3 _ _ _ HX.out (Nat.le_refl _)⟩
  | cons x t =>
    cases es with
    | nil => cases hlens
    | cons n t2 =>
      have HF : Hid (R = (x, n, 0)) := hid (by rw [← HR.out]; exact first_cons hra)
      obtain ⟨a, y, rfl, k0, k1, k2, hvy, hga⟩ := h1.first
      obtain ⟨a2, rfl, c0, hg2⟩ := owv_first h2
      obtain ⟨yo, yc, rfl, -⟩ := hvy.open
      obtain ⟨yn, hyn⟩ : ∃ k, x.n.length = k := ⟨_, rfl⟩
      rw [hyn] at hvy k1
      have HVY := hid hvy
      clear hyn
      have HNE : Hid (a ≠ w.heap.size ∧ a2 ≠ w.heap.size) := hid (by have := HSZ.out; omega)
      have HK0 : Hid (a < w1.heap.size ∧ a2 < w1.heap.size) := hid ⟨cell_lt k0, cell_lt c0⟩
      have HK := hid (And.intro k0 (And.intro k1 (And.intro k2 c0)))
      obtain ⟨l1, hl1⟩ : ∃ l, (x :: t).length = l := ⟨_, rfl⟩
      obtain ⟨l2, hl2⟩ : ∃ l, (n :: t2).length = l := ⟨_, rfl⟩
      have hp1 : 0 < l1 := by rw [← hl1, List.length_cons]; omega
      have hp2 : 0 < l2 := by rw [← hl2, List.length_cons]; omega
      have hp1i : (0 : Int) < (l1 : Int) := by omega
      have hp2i : (0 : Int) < (l2 : Int) := by omega
      have hz : ((l1 : Int) == 0) = false := by simp; omega
      rw [hl1, hl2]
      clear h1 h2 hlens hra h3 hm hm1 hmc hm0 hvy hl1 hl2 k0 k1 k2 c0 hga hg2
      go_wp2_with fail
      refine ParE.wp_region_e (l := [_, _, _, _, _, _, _, _, _]) rfl (Rg.Ch [6] [] (FsQ w1 w.heap.size (.int .i64 x.kind) (.slice yo yn yc) (.string (str x.text)))) (ParC.VC [ParC.EQ (Value.slice (some ⟨a, 0, none⟩) l1 lc), ParC.EQ (Value.pointer (some ⟨a, 0, none⟩)), ParC.EQ (Value.agg #[.int .i64 x.kind, (.slice yo yn yc), .string (str x.text)]), ParC.EQ (Value.slice (some ⟨a2, 0, none⟩) l2 ec), ParC.EQ (Value.pointer (some ⟨a2, 0, none⟩)), ParC.EQ (iv n), fun _ => True, ParC.EQ (iv n), ParC.EQ ((Value.int IntKind.i64 0))]) (by kernel_rfl) (by kernel_rfl) (Rg.Ch.start ⟨fun _ => Ext.draw _, Ext.fr (Ext.draw _), trivial⟩) ?_ ?_
      · refine ⟨fun L ρ w' hR hC hL hd hk => ?_, ?_⟩
        · exact Par.val_of_run rfl ⟨hR.other (by decide), hk.1⟩
        refine ⟨fun L ρ w' hR hC hL hd hk => ?_, ?_⟩
        · obtain ⟨k0, k1, -⟩ := hk
          have e0 : ρ (.tmp 23) = Value.slice (some ⟨a, 0, none⟩) l1 lc := k0
          have e1 : ρ (Operand.const (Value.int IntKind.i64 0)) = (Value.int IntKind.i64 0) := k1
          clear k0 k1
          refine Par.val_k fun K hK => ?_
          unfold Par.val
          (go_simp; exact hK _ _ ⟨hR.other (by decide), rfl⟩)
        refine ⟨fun L ρ w' hR hC hL hd hk => ?_, ?_⟩
        · obtain ⟨k0, -⟩ := hk
          have e0 : ρ (.tmp 24) = Value.pointer (some ⟨a, 0, none⟩) := k0
          clear k0
          refine Par.val_k fun K hK => ?_
          unfold Par.val
          (obtain ⟨i, -, -, hq⟩ := hR.ex; obtain ⟨k0, k1, k2, -⟩ := HK.out; have d0 := fr_cell1 hq.2.1 HNE.out.1 HK0.out.1 k0; have d1 := fr_cell1 hq.2.1 HNE.out.1 HK0.out.1 k1; have d2 := fr_cell1 hq.2.1 HNE.out.1 HK0.out.1 k2; go_simp; exact hK _ _ ⟨hR.other (by decide), rfl⟩)
        refine ⟨fun L ρ w' hR hC hL hd hk => ?_, ?_⟩
        · exact Par.val_of_run rfl ⟨hR.other (by decide), hk.1⟩
        refine ⟨fun L ρ w' hR hC hL hd hk => ?_, ?_⟩
        · obtain ⟨k0, k1, -⟩ := hk
          have e0 : ρ (.tmp 26) = Value.slice (some ⟨a2, 0, none⟩) l2 ec := k0
          have e1 : ρ (Operand.const (Value.int IntKind.i64 0)) = (Value.int IntKind.i64 0) := k1
          clear k0 k1
          refine Par.val_k fun K hK => ?_
          unfold Par.val
          (go_simp; exact hK _ _ ⟨hR.other (by decide), rfl⟩)
        refine ⟨fun L ρ w' hR hC hL hd hk => ?_, ?_⟩
        · obtain ⟨k0, -⟩ := hk
          have e0 : ρ (.tmp 27) = Value.pointer (some ⟨a2, 0, none⟩) := k0
          clear k0
          refine Par.val_k fun K hK => ?_
          unfold Par.val
          (obtain ⟨i, -, -, hq⟩ := hR.ex; obtain ⟨-, -, -, c0⟩ := HK.out; have d0 := fr_cell1 hq.2.1 HNE.out.2 HK0.out.2 c0; go_simp; exact hK _ _ ⟨hR.other (by decide), rfl⟩)
        refine ⟨fun L ρ w' hR hC hL hd hk => ?_, ?_⟩
        · obtain ⟨k0, k1, -⟩ := hk
          have e0 : ρ (.tmp 2) = Value.pointer (some ⟨w.heap.size, 0, none⟩) := k0
          have e1 : ρ (.tmp 25) = Value.agg #[.int .i64 x.kind, (.slice yo yn yc), .string (str x.text)] := k1
          clear k0 k1
          refine Par.val_k fun K hK => ?_
          unfold Par.val
          (obtain ⟨hq, hs⟩ := hR.go 0 rfl hL (.inl rfl) (by decide); have hx := hq.1 (by decide); have hbx := hx.obj HB1.out; obtain ⟨m0, m1, m2, mf⟩ := lk3 hbx; have mf0 := mf 0; have mf1 := mf 1; have mf2 := mf 2; have HB9 := hid hbx; have HX9 := hid hx; clear hbx hx; go_simp; exact hK _ _ ⟨hs none _ _ ⟨fun h => absurd h (by decide), (Ext.fr HX9.out).trans (fr3 _ _ _ _ _), set3 HB9.out _ _ _⟩, trivial⟩)
        refine ⟨fun L ρ w' hR hC hL hd hk => ?_, ?_⟩
        · exact Par.val_of_run rfl ⟨hR.other (by decide), hk.1⟩
        refine ⟨fun L ρ w' hR hC hL hd hk => ?_, ?_⟩
        · exact Par.val_of_run rfl ⟨hR.other (by decide), by first | rfl | exact hk.1⟩
        trivial
      intro a' w' inv hR
      have q23 : a'.tmps.getD 23 undef = Value.slice (some ⟨a, 0, none⟩) l1 lc := inv.done 0 _ 23 rfl rfl rfl
      have q24 : a'.tmps.getD 24 undef = Value.pointer (some ⟨a, 0, none⟩) := inv.done 1 _ 24 rfl rfl rfl
      have q25 : a'.tmps.getD 25 undef = Value.agg #[.int .i64 x.kind, (.slice yo yn yc), .string (str x.text)] := inv.done 2 _ 25 rfl rfl rfl
      have q26 : a'.tmps.getD 26 undef = Value.slice (some ⟨a2, 0, none⟩) l2 ec := inv.done 3 _ 26 rfl rfl rfl
      have q27 : a'.tmps.getD 27 undef = Value.pointer (some ⟨a2, 0, none⟩) := inv.done 4 _ 27 rfl rfl rfl
      have q28 : a'.tmps.getD 28 undef = iv n := inv.done 5 _ 28 rfl rfl rfl
      have q3 : a'.tmps.getD 3 undef = iv n := inv.done 7 _ 3 rfl rfl rfl
      have q4 : a'.tmps.getD 4 undef = (Value.int IntKind.i64 0) := inv.done 8 _ 4 rfl rfl rfl
      clear inv
      simp only [List.filterMap_cons, List.filterMap_nil, Par.putAll, Act.put, List.setIfInBounds_toArray, List.set_cons_succ, List.set_cons_zero, q23, q24, q25, q26, q27, q28, q3, q4]
      clear q23 q24 q25 q26 q27 q28 q3 q4
      obtain ⟨-, hf2, hb2⟩ := Rg.Ch.fin hR (by decide) 1 rfl; have HF2 := hid hf2; have HB2 := hid hb2; clear hf2 hb2 hR
      try clear a'
      go_wp2
      refine bodyPost_ret (res_first _ _ _ _ _ _ rfl HB2.out) rfl ?_
      rw [HF.out]
      exact ⟨⟨_, rfl, vecU_fr HVY.out HB1.out HF2.out⟩, Below.trans HX.out (HF2.out.below (by simp) HX.out.size)⟩
set_option maxHeartbeats 1000000 in
theorem sat_any {B : Nat} {w : World} {p : Nat} {x : DX} {s : PS} (seg at' : UInt64) (h : Dk B w p x s) (hp : Pw w) (ht : Tab w) :
    Calls Tryz.prog 37 #[pv p, uv seg, uv at'] w fun e w' => FstR w (readG s seg at') e w' := by
  have HP := hid hp
  have HT := hid ht
  have H := hid h
  obtain ⟨R, hR⟩ : ∃ R, readG s seg at' = R := ⟨_, rfl⟩
  rw [hR]
  unfold readG at hR
  have HR := hid hR
  have HB0 := hid (heap_alloc_new w zR)
  have HE0 := hid (Ext.alloc w zR)
  clear h hp ht hR
  go_enter Tryz.func37, Tryz.ntmps37
  go_wp2_with fail
  refine Calls.mono (ofM_any seg _ (Pw.ext15 HP.out HE0.out)) ?_
  rintro e w1 ⟨k1, k2, hx⟩
  have HX := hid (HE0.out.trans hx)
  have HB1 := hid (hx.obj HB0.out)
  by_cases hsg : seg.toNat < 10000000000
  case neg =>
    obtain rfl := k2 (by omega)
    have HQ : Hid (R = (r0, 0, 1)) := hid (by rw [← HR.out, if_pos (by omega)])
    clear k1 k2 hx hsg
    obtain ⟨m0, m1, m2, mf⟩ := lk3 HB1.out
    go_wp2
    refine bodyPost_ret (res_at _ _ _ _ _ _ rfl (set3 HB1.out _ _ _)) rfl ?_
    rw [HQ.out]
    exact ⟨⟨_, rfl, Vec.nil _⟩, ext3 _ _ _ HX.out (Nat.le_refl _)⟩
  obtain rfl := k1 hsg
  have HSG := hid hsg
  have HQ := HR
  rw [if_neg (by omega)] at HQ
  clear k1 k2 hx hsg HR
  go_wp2_with fail
  refine Calls.mono (dread_any (segN seg.toNat) (segN_max HSG.out) (H.out.ext HX.out)) ?_
  rintro e w2 ⟨⟨v, rfl, ho⟩, hx2⟩
  have HX2 := hid (HX.out.trans hx2)
  have HB2 := hid (hx2.obj HB1.out)
  obtain ⟨vo, vc, rfl⟩ := row_shape ho
  have HLEN := hid (rd_len15 H.out.gd (segN seg.toNat))
  have HB := hid ho.byt
  obtain ⟨c, hc⟩ : ∃ c, rdE s (segN seg.toNat) = c := ⟨_, rfl⟩
  obtain ⟨b, hb⟩ : ∃ b, rdB s (segN seg.toNat) = b := ⟨_, rfl⟩
  rw [hc, hb] at HQ
  rw [hb] at HLEN HB
  try rw [hc]
  try rw [hb]
  clear ho hx2 hc hb
  by_cases hc0 : c = 0
  case neg =>
    have hc1 : ((c : Int) != 0) = true := by simp; omega
    have HQ2 : Hid (R = (r0, 0, (c : Int))) := hid (by rw [← HQ.out, if_pos hc0])
    clear HQ hc0
    obtain ⟨m0, m1, m2, mf⟩ := lk3 HB2.out
    go_wp2
    refine bodyPost_ret (res_at _ _ _ _ _ _ rfl (set3 HB2.out _ _ _)) rfl ?_
    rw [HQ2.out]
    exact ⟨⟨_, rfl, Vec.nil _⟩, ext3 _ _ _ HX2.out (Nat.le_refl _)⟩
  subst hc0
  rw [if_neg (by simp)] at HQ
  obtain ⟨n, hn⟩ : ∃ n, b.length = n := ⟨_, rfl⟩
  have hnw : IntKind.u64.wrap (n : Int) = (n : Int) := by rw [IntKind.wrap_u64]; have := HLEN.out; omega
  rw [hn] at HQ
  try rw [hn]
  have HN := hid hn
  by_cases h1 : n ≤ at'.toNat
  · have d1 : decide (n ≤ at'.toNat) = true := by simpa using h1
    have HQ2 : Hid (R = (r0, 0, 3)) := hid (by rw [← HQ.out, if_pos h1])
    clear HQ h1 hn
    obtain ⟨m0, m1, m2, mf⟩ := lk3 HB2.out
    go_wp2
    refine bodyPost_ret (res_at _ _ _ _ _ _ rfl (set3 HB2.out _ _ _)) rfl ?_
    rw [HQ2.out]
    exact ⟨⟨_, rfl, Vec.nil _⟩, ext3 _ _ _ HX2.out (Nat.le_refl _)⟩
  have d1 : decide (n ≤ at'.toNat) = false := by simpa using h1
  rw [if_neg h1] at HQ
  obtain ⟨-, hle, hmx, hne, -⟩ := HB.out.vec.opens
  obtain ⟨a, rfl⟩ := hne (by omega)
  have hp : Byt w2 (.slice (some (a.add at'.toNat)) (n - at'.toNat) (vc - at'.toNat)) (b.drop at'.toNat) := by
    have h := Byt.part HB.out at'.toNat b.length (by omega) (Nat.le_refl _) (some (a.add at'.toNat)) (by rw [if_neg (by omega)]; simp)
    rw [List.take_of_length_le (by simp)] at h
    rw [← hn]
    exact h
  have HPB := hid hp
  have hk1 : (at'.toNat : Int) ≤ (n : Int) := by omega
  have hk2 : (n : Int) ≤ (vc : Int) := by omega
  have hk3 : at'.toNat ≤ n := by omega
  have hk4 : at'.toNat ≠ vc := by omega
  have hk5 : ¬ vc = at'.toNat := by omega
  clear hp hn hle hmx hne h1
  go_wp2_with fail
  refine Calls.mono (sfirst_any _ (b.drop at'.toNat) w2 HPB.out (by rw [List.length_drop]; have := HLEN.out; omega) (HT.out.ext HX2.out)) ?_
  rintro e w3 ⟨⟨u, rfl, hu⟩, hx3⟩
  rw [HQ.out] at hu ⊢
  obtain ⟨uo, uc, rfl, -⟩ := hu.open
  obtain ⟨un, hun⟩ : ∃ k, R.1.n.length = k := ⟨_, rfl⟩
  rw [hun] at hu ⊢
  have HU := hid hu
  clear hun
  have HX3 := hid (HX2.out.trans hx3)
  have HB3 := hid (hx3.obj HB2.out)
  clear hu hx3
  obtain ⟨m0, m1, m2, mf⟩ := lk3 HB3.out
  go_wp2
  refine bodyPost_ret (res_at _ _ _ _ _ _ rfl (set3 HB3.out _ _ _)) rfl ?_
  exact ⟨⟨_, rfl, vec_set3 HU.out HB3.out _ _ _⟩, ext3 _ _ _ HX3.out (Nat.le_refl _)⟩
set_option maxHeartbeats 1000000 in
theorem sread_any {B : Nat} {w : World} {p b : Nat} {x : DX} {s : PS} {g : LG} (seg at' : UInt64) (h : Lg B w p b x s g) (hp : Pw w) (ht : Tab w) :
    Calls Tryz.prog 31 #[pv b, uv seg, uv at'] w fun e w' => FstR w (readG s seg at') e w' := by
  have HB0 := hid (heap_alloc_new w zR)
  have HE0 := hid (Ext.alloc w zR)
  have hc := sat_any seg at' (h.dk.ext HE0.out) (Pw.ext15 hp HE0.out) (ht.ext HE0.out)
  obtain ⟨R, hR⟩ : ∃ R, readG s seg at' = R := ⟨_, rfl⟩
  rw [hR] at hc ⊢
  have HC := hid hc
  clear hc hR
  obtain ⟨c0, c1, c2, c3, c4, c5, -⟩ := blk6 (HE0.out.obj h.lg)
  clear h hp ht
  go_enter Tryz.func31, Tryz.ntmps31
  go_wp2_with fail
  refine Calls.mono HC.out ?_
  rintro e w3 ⟨⟨u, rfl, hu⟩, hx3⟩
  obtain ⟨uo, uc, rfl, -⟩ := hu.open
  obtain ⟨un, hun⟩ : ∃ k, R.1.n.length = k := ⟨_, rfl⟩
  rw [hun] at hu ⊢
  have HU := hid hu
  clear hun
  have HX3 := hid (HE0.out.trans hx3)
  have HB3 := hid (hx3.obj HB0.out)
  clear hu hx3 c0 c1 c2 c3 c4 c5
  obtain ⟨m0, m1, m2, mf⟩ := lk3 HB3.out
  go_wp2
  refine bodyPost_ret (res_read _ _ _ _ _ _ rfl (set3 HB3.out _ _ _)) rfl ?_
  exact ⟨⟨_, rfl, vec_set3 HU.out HB3.out _ _ _⟩, ext3 _ _ _ HX3.out (Nat.le_refl _)⟩
end Go.Proofs.YtmbigiihcplcjaaGreatDoor

