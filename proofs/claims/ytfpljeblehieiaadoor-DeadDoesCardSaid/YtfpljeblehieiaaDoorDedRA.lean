/- The document's list: Has, Drop, Add. -/
import Derived.Test.YtfpljeblehieiaaDoorDedX
import Derived.Test.YtfpljeblehieiaaDoorRgM
set_option linter.unusedSimpArgs false
set_option linter.unusedVariables false
namespace Go.Proofs.YtfpljeblehieiaaDoor
open Go Go.RowKit Go.Tum Go.ChangeMaps Go.Sort Go.Tum.Rn
open Go.ParB (upd Lof)
open Go.ParE (putS slotsR slots Closed)

section
variable {B : Nat} {w w' : World} {q : Nat} {vr vs : Value} {s : PD}
theorem RDD.sepR (h : RDD B w q vr vs s) : ∀ b ∈ oB vr, b ∉ q :: oB vs := fun b hb hm => by
  obtain ⟨cs, e⟩ := row_kind h.rr b hb
  rcases List.mem_cons.1 hm with rfl | hm
  · rw [h.hd] at e; cases e
  · obtain ⟨cs2, e2⟩ := row_kind h.ss b hm
    rw [e] at e2; cases e2
theorem RDD.sepS (h : RDD B w q vr vs s) : ∀ b ∈ oB vs, b ∉ q :: oB vr := fun b hb hm => by
  obtain ⟨cs, e⟩ := row_kind h.ss b hb
  rcases List.mem_cons.1 hm with rfl | hm
  · rw [h.hd] at e; cases e
  · obtain ⟨cs2, e2⟩ := row_kind h.rr b hm
    rw [e] at e2; cases e2
end
/-- An act of the document's list. -/
def RAct (B : Nat) (w : World) (q : Nat) (vs : Value) (b : Bool) (s : PD) (e : Ending) (w' : World) : Prop := e = .returned (.bool b) ∧ (∃ vr' vs', RDD B w' q vr' vs' s) ∧ Fr (q :: oB vs) w w'
set_option maxHeartbeats 1000000 in
theorem rhas_any {B : Nat} {w : World} {q : Nat} {vr vs : Value} {s : PD} (x : UInt64) (h : RDD B w q vr vs s) :
    Calls Tryd.prog 14 #[pv q, vU x] w fun e w' => e = .returned (.bool (s.rows.lookup x).isSome) ∧ Ext w w' := by
  obtain ⟨ao, cap, rfl⟩ := row_shape h.rr
  obtain ⟨hle, hm, hz, hc⟩ := Sl.cells (Sl.of_owns h.rr)
  have hmm : cap ≤ 9223372036854775807 := by simpa [maxLen] using hm
  obtain ⟨c0, -, -, -⟩ := lk3 h.hd
  clear h hm
  obtain ⟨l, hl⟩ : ∃ l, s.rows = l := ⟨_, rfl⟩
  rw [hl] at c0 hle hc ⊢
  have HC := hid hc
  have C0 := hid c0
  clear hl hc c0
  go_enter Tryd.func14, Tryd.ntmps14
  go_wp2
  go_loopw [5] (fun i wr => ∃ k : Nat, k ≤ l.length ∧ i = .int .i64 k ∧ Hid (∀ j (h : j < l.length), j < k → l[j].1 ≠ x) ∧ Hid (Ext w wr)) (fun i _ => l.length - (intOf i).toNat)
  case atStart => exact ⟨0, by omega, rfl, hid (fun j h h2 => absurd h2 (by omega)), hid (Ext.refl _)⟩
  case round =>
    obtain ⟨k, hk, rfl, HN, HE⟩ := hrel
    have cc := HE.out.cell C0.out
    by_cases hlt : k < l.length
    · obtain ⟨a, rfl⟩ : ∃ a, ao = some a := by
        cases ao with
        | none => have := hz rfl; omega
        | some a => exact ⟨a, rfl⟩
      obtain ⟨g0, g1⟩ := flat2_get (A := fun z : UInt64 × UInt64 => vU z.1) (Bf := fun z => vU z.2) l k hlt
      have r0 := cell_first (i := k * 2) (HE.out.cell (HC.out a rfl _ _ g0))
      obtain ⟨z, hz3⟩ : ∃ z, l[k] = z := ⟨_, rfl⟩
      have HZ := hid hz3
      rw [hz3] at r0
      obtain ⟨z1, z2⟩ := z
      clear g0 g1 hz3
      have hi1 : (k : Int) < l.length := by omega
      by_cases hx : z1 = x
      · have HR : Hid ((l.lookup x).isSome = true) := hid (by
          cases hq : l.lookup x with
          | some b => rfl
          | none =>
            refine absurd ?_ (lku_none.1 hq)
            rw [← hx]
            exact List.mem_map.2 ⟨l[k], List.getElem_mem hlt, by rw [HZ.out]⟩)
        have he : ((z1.toNat : Int) == (x.toNat : Int)) = true := by simp [hx]
        clear hx
        go_wp2
        go_ret
        exact ⟨by rw [HR.out]; rfl, HE.out⟩
      · have he : ((z1.toNat : Int) == (x.toNat : Int)) = false := by
          simp only [beq_eq_false_iff_ne, ne_eq]
          exact fun e => hx (UInt64.toNat_inj.1 (by omega))
        have HN2 : Hid (∀ j (h : j < l.length), j < k + 1 → l[j].1 ≠ x) := hid (fun j h h2 => by
          rcases Nat.lt_or_eq_of_le (Nat.le_of_lt_succ h2) with h3 | h3
          · exact HN.out j h h3
          · subst h3; rw [HZ.out]; exact hx)
        clear hx
        go_wp2
        go_roundw
        case rel => exact ⟨k + 1, by omega, by go_num, HN2, HE⟩
        case measure => simp [intOf]; omega
    · have hkf : decide ((k : Int) < (l.length : Int)) = false := by simp; omega
      have HR : Hid ((l.lookup x).isSome = false) := hid (by
        have : l.lookup x = none := lku_none.2 fun hm => by
          obtain ⟨z, hz1, e⟩ := List.mem_map.1 hm
          obtain ⟨j, hj, rfl⟩ := List.mem_iff_getElem.1 hz1
          exact HN.out j hj (by omega) e
        rw [this]; rfl)
      go_wp2
      go_ret
      exact ⟨by rw [HR.out]; rfl, HE.out⟩
theorem noK_succ {l : List (UInt64 × UInt64)} {k : Nat} (h : k < l.length) (x : UInt64) : noK (l.take (k + 1)) x = noK (l.take k) x ++ (if l[k].1 != x then [l[k]] else []) := by
  rw [List.take_succ_eq_append_getElem h]
  unfold noK
  rw [List.filter_append, List.filter_cons]
  simp
set_option maxRecDepth 100000 in
set_option maxHeartbeats 1000000 in
theorem rdrop_any {B : Nat} {w : World} {q : Nat} {vr vs : Value} {s : PD} (x : UInt64) (h : RDD B w q vr vs s) (hlr : s.rows.length ≤ 100000) (hB : B ≤ w.heap.size) :
    Calls Tryd.prog 12 #[pv q, vU x] w fun e w' => RAct B w q vs (dropD s x).1 (dropD s x).2 e w' := by
  have H := hid h
  have HB := hid hB
  obtain ⟨ao, cap, rfl⟩ := row_shape h.rr
  clear h hB
  go_enter Tryd.func12, Tryd.ntmps12
  go_wp2_with fail
  refine (rhas_any x H.out).mono ?_
  rintro e w1 ⟨rfl, hx⟩
  have HX1 := hid hx
  have H1 := hid (H.out.ext hx)
  obtain ⟨is, his⟩ : ∃ b, (s.rows.lookup x).isSome = b := ⟨_, rfl⟩
  have HIS := hid his
  rw [his]
  obtain ⟨hle, hm, hz, hc⟩ := Sl.cells (Sl.of_owns H1.out.rr)
  have hmm : cap ≤ 9223372036854775807 := by simpa [maxLen] using hm
  obtain ⟨c0, -, -, -⟩ := lk3 H1.out.hd
  obtain ⟨l, hl⟩ : ∃ l, s.rows = l := ⟨_, rfl⟩
  have HLQ := hid hl
  rw [hl] at c0 hle hc hlr
  have HC := hid hc
  have C0 := hid c0
  have HLE := hid hlr
  have HE0 : Hid (Ext w1 (w1.alloc (.cells #[] 49))) := hid (Ext.alloc _ _)
  have HO0 := hid (World.ownsRow_lit (base := w1.heap.size) (e := 49) (size := 2) w1 #[] 0 (Nat.le_refl _) (by simp [maxLen]) (by simp))
  clear hx his hl hc c0 hm hlr
  go_wp2
  go_loopw [6, 7] (fun t i wr => ∃ (k m : Nat) (go : Option Addr) (gc : Nat), k ≤ l.length ∧ i = .int .i64 k ∧ t = .slice go m gc ∧ Hid (m = (noK (l.take k) x).length) ∧ Hid (wr.ownsRow w1.heap.size 49 2 (.slice go m gc) m ((noK (l.take k) x).flatMap encR)) ∧ Hid (Ext w1 wr)) (fun t i _ => l.length - (intOf i).toNat)
  case atStart => exact ⟨0, 0, _, _, by omega, rfl, rfl, hid rfl, HO0, HE0⟩
  case round =>
    obtain ⟨k, m, go, gc, hk, rfl, rfl, HM, HO, HE⟩ := hrel
    have cc := HE.out.cell C0.out
    by_cases hlt : k < l.length
    · obtain ⟨a, rfl⟩ : ∃ a, ao = some a := by
        cases ao with
        | none => have := hz rfl; omega
        | some a => exact ⟨a, rfl⟩
      obtain ⟨g0, g1⟩ := flat2_get (A := fun z : UInt64 × UInt64 => vU z.1) (Bf := fun z => vU z.2) l k hlt
      have r0 := cell_first (i := k * 2) (HE.out.cell (HC.out a rfl _ _ g0))
      have r1 := cell_next (i := k * 2) (j := 1) (HE.out.cell (HC.out a rfl _ _ g1)) (by decide)
      have hsu := noK_succ hlt x
      obtain ⟨z, hz3⟩ : ∃ z, l[k] = z := ⟨_, rfl⟩
      rw [hz3] at r0 r1
      replace hsu : noK (l.take (k + 1)) x = noK (l.take k) x ++ (if z.1 != x then [z] else []) := by rw [← hz3]; exact hsu
      have hmk : m ≤ k := by rw [HM.out]; exact Nat.le_trans (List.length_filter_le _ _) (by simp; omega)
      obtain ⟨z1, z2⟩ := z
      clear g0 g1 hz3
      have hi1 : (k : Int) < l.length := by omega
      dsimp only at hsu
      by_cases he : z1 = x
      · have hb : ((z1.toNat : Int) != (x.toNat : Int)) = false := by simp [he]
        have HSU : Hid (noK (l.take (k + 1)) x = noK (l.take k) x) := hid (by rw [hsu]; simp [he])
        clear he hsu
        go_wp2
        go_roundw
        case rel => exact ⟨k + 1, m, go, gc, by omega, by go_num, rfl, hid (by rw [HSU.out]; exact HM.out), hid (by rw [HSU.out]; exact HO.out), HE⟩
        case measure => simp [intOf]; omega
      · have hb : ((z1.toNat : Int) != (x.toNat : Int)) = true := by
          simp only [bne_iff_ne, ne_eq]
          exact fun e => he (UInt64.toNat_inj.1 (by omega))
        have HSU : Hid (noK (l.take (k + 1)) x = noK (l.take k) x ++ [(z1, z2)]) := hid (by rw [hsu]; simp [he])
        have hcap := HLE.out
        clear he hsu
        go_wp2_with (at_builtin; refine wpList_append_slN rfl (.tmp 31) (.tmp 39) 28 rfl w1.heap.size 49 Tryd.underlying28 infoRR rfl (by decide) rfl ((Ext.alloc wr _).owns HO.out) rfl (row_one wr 49 (z1, z2)) (by intro y hy; simp at hy; rcases hy with rfl | rfl <;> rfl) (m + 1) rfl (by simp [maxLen]; omega) (by omega) (Nat.le_trans HE.out.size (by simp)) ?_; intro ao3 cap3 w3 hO3 hg3 hb3; have HO3 := hid hO3; have HE3 : Hid (Ext w1 w3) := hid (Below.trans (HE.out.trans (Ext.alloc _ _)) hb3); clear hO3 hg3 hb3)
        go_roundw
        case rel => exact ⟨k + 1, m + 1, ao3, cap3, by omega, by go_num, rfl, hid (by rw [HSU.out, List.length_append, ← HM.out]; rfl), hid (by rw [HSU.out, List.flatMap_append]; simpa using HO3.out), HE3⟩
        case measure => simp [intOf]; omega
    · obtain rfl : k = l.length := by omega
      have hkf : decide ((l.length : Int) < (l.length : Int)) = false := by simp
      have H9 := hid (H1.out.ext HE.out)
      have ff := (lk3 H9.out.hd).2.2.2 0
      go_wp2
      go_ret
      have h1 := HO.out
      have h2 := HM.out
      rw [List.take_length, ← HLQ.out] at h1 h2
      subst h2
      have hfs : Fr [q] wr (wr.setCell ⟨q, 0, none⟩ (.slice go (noK s.rows x).length gc)) := fr_setCell _ _ _ (by simp)
      have hq1 : ∀ b ∈ oB (.slice go (noK s.rows x).length gc), b ∉ [q] := fun b hb hm => by
        have := row_lo h1 b hb
        have h3 := (Array.getElem?_eq_some_iff.1 H1.out.hd).1
        simp at hm
        omega
      refine ⟨by unfold dropD; rw [HIS.out]; rfl, ⟨.slice go (noK s.rows x).length gc, vs, block_set H9.out.hd 0 _, ownsRow_fr (owns_mono h1 (Nat.le_trans HB.out HX1.out.size)) hfs hq1, ownsRow_fr H9.out.ss hfs (fun b hb hm => H9.out.sepS b hb (by simp at hm; simp [hm])), H9.out.lo⟩, ((Ext.fr HX1.out).trans (Ext.fr HE.out)).trans (hfs.mono (by simp))⟩
/-- What lives in Add. -/
def AddQ (W : World) (x l1 : UInt64) (rows : List (UInt64 × UInt64)) (d : Nat) (v : Value) (w : World) : Prop := match d with
  | 17 => ∃ g, v = .slice (some ⟨g, 0, none⟩) 0 0 ∧ w.heap[g]? = some (.cells #[] 49 (0, 0)) ∧ W.heap.size ≤ g
  | 22 => w.ownsRow W.heap.size 49 2 v rows.length (rows.flatMap encR)
  | 29 => ∃ g, v = .slice (some ⟨g, 0, none⟩) 1 1 ∧ w.heap[g]? = some (.cells #[vU x, vU l1] 49 (0, 0))
  | 30 => w.ownsRow W.heap.size 49 2 v (rows.length + 1) (rows.flatMap encR ++ encR (x, l1))
  | _ => True
theorem AddQ.st {W : World} {x l1 : UInt64} {rows : List (UInt64 × UInt64)} (d : Nat) (v : Value) (w w' : World) (h : AddQ W x l1 rows d v w) (k : Ext w w') : AddQ W x l1 rows d v w' := by
  unfold AddQ at *
  split at h
  · obtain ⟨g, e, hg, hl⟩ := h; exact ⟨g, e, k.obj hg, hl⟩
  · exact k.owns h
  · obtain ⟨g, e, hg⟩ := h; exact ⟨g, e, k.obj hg⟩
  · exact k.owns h
  · trivial
theorem emp_own {w : World} {g e size B : Nat} (h : w.heap[g]? = some (.cells #[] e (0, 0))) (hB : B ≤ g) : w.ownsRow B e size (.slice (some ⟨g, 0, none⟩) 0 0) 0 [] :=
  ⟨by simp, .inr ⟨g, 0, #[], rfl, hB, h, Nat.le_refl _, by simp [maxLen], by simp, by simp⟩⟩
theorem row_at {w : World} {g e : Nat} {z : UInt64 × UInt64} (h : w.heap[g]? = some (.cells #[vU z.1, vU z.2] e (0, 0))) : Sl w 2 (.slice (some ⟨g, 0, none⟩) 1 1) 1 (encR z) := by
  refine ⟨rfl, some ⟨g, 0, none⟩, 1, rfl, Nat.le_refl _, by simp [maxLen], (fun h => by cases h), fun a ha j u hu => ?_⟩
  cases ha
  have e1 : (⟨g, 0, none⟩ : Addr).add j = ⟨g, j, none⟩ := by unfold Addr.add; split <;> simp_all
  rw [e1, cell_of_row _ _ _ _ _ _ h]
  simpa using hu
set_option maxRecDepth 100000 in
set_option maxHeartbeats 1000000 in
theorem radd_any {B : Nat} {w : World} {q : Nat} {vr vs : Value} {s : PD} (x : UInt64) (h : RDD B w q vr vs s) (hlr : s.rows.length ≤ 100000) (hB : B ≤ w.heap.size) :
    Calls Tryd.prog 11 #[pv q, vU x] w fun e w' => RAct B w q vs (addD s x).1 (addD s x).2 e w' := by
  have H := hid h
  have HB := hid hB
  have HLR := hid hlr
  obtain ⟨ao, cap, rfl⟩ := row_shape h.rr
  clear h hB hlr
  go_enter Tryd.func11, Tryd.ntmps11
  go_wp2_with fail
  refine (rhas_any x H.out).mono ?_
  rintro e w1 ⟨rfl, hx⟩
  have HX1 := hid hx
  have H1 := hid (H.out.ext hx)
  clear hx
  cases hlk : (s.rows.lookup x).isSome
  case true =>
    have HA : Hid (addD s x = (false, s)) := hid (by unfold addD; rw [if_pos hlk])
    clear hlk
    go_wp2
    go_ret
    unfold RAct
    rw [HA.out]
    exact ⟨rfl, ⟨_, _, H1.out⟩, Ext.fr HX1.out⟩
  have HA : Hid (addD s x = (true, { s with last := s.last + 1, rows := s.rows ++ [(x, s.last + 1)] })) := hid (by unfold addD; rw [if_neg (by rw [hlk]; decide)])
  clear hlk
  obtain ⟨-, c1, -, ff⟩ := lk3 H1.out.hd
  have f1 := ff 1
  clear ff
  go_wp2_with fail
  rw [u64_add1]
  have hF0 : Fr [q] w1 (w1.setCell ⟨q, 1, none⟩ (vU (s.last + 1))) := fr_setCell _ _ _ (by simp)
  have HD1 : Hid (RDD B (w1.setCell ⟨q, 1, none⟩ (vU (s.last + 1))) q (.slice ao s.rows.length cap) vs { s with last := s.last + 1 }) := hid
    ⟨block_set H1.out.hd 1 _, ownsRow_fr H1.out.rr hF0 (fun b hb hm => H1.out.sepR b hb (by simp at hm; simp [hm])), ownsRow_fr H1.out.ss hF0 (fun b hb hm => H1.out.sepS b hb (by simp at hm; simp [hm])), H1.out.lo⟩
  have HF0 := hid hF0
  generalize w1.setCell ⟨q, 1, none⟩ (vU (s.last + 1)) = W1 at *
  clear hF0 c1 f1
  obtain ⟨l1, hl1⟩ : ∃ y, s.last + 1 = y := ⟨_, rfl⟩
  rw [hl1] at HA HD1 ⊢
  clear hl1
  refine ParE.wp_region_e (l := [_, _, _, _, _, _, _, _, _, _, _, _, _, _, _, _, _, _]) rfl (Rg.Mx W1 17 [(1, 17, 6), (6, 22, 14), (13, 29, 14), (14, 30, 17)] (AddQ W1 x l1 s.rows) (fun w' => (∃ vr', RDD B w' q vr' vs { s with last := l1, rows := s.rows ++ [(x, l1)] }) ∧ Fr [q] W1 w')) (ParC.VC [ParC.EQ (pv q), (fun _ => True), ParC.EQ (pv q), ParC.EQ (pv q), ParC.EQ (Value.pointer (some ⟨q, 0, none⟩)), ParC.EQ (Value.slice ao s.rows.length cap), (fun _ => True), ParC.EQ (vU x), ParC.EQ (pv q), ParC.EQ (pv q), ParC.EQ (Value.pointer (some ⟨q, 1, none⟩)), ParC.EQ (vU l1), ParC.EQ (Value.agg #[vU x, vU l1]), (fun _ => True), (fun _ => True), ParC.EQ (pv q), ParC.EQ (Value.pointer (some ⟨q, 0, none⟩)), fun _ => True]) (by kernel_rfl) (by kernel_rfl) (Rg.Mx.start AddQ.st) ?_ ?_
  · refine ⟨fun L ρ w' hR hC hL hd hk => ?_, ?_⟩
    · obtain ⟨k0, -⟩ := hk
      have e0 : ρ (.tmp 0) = pv q := k0
      clear k0
      refine Par.val_k fun K hK => ?_
      unfold Par.val
      (go_simp; exact hK _ _ ⟨hR.other (by decide), rfl⟩)
    refine ⟨fun L ρ w' hR hC hL hd hk => ?_, ?_⟩
    · obtain ⟨-⟩ := hk
      skip
      refine Par.val_k fun K hK => ?_
      unfold Par.val
      (have hz := hC.notyet 17 1 hL (by kernel_rfl); have hx := hR.a hz; go_simp; exact hK _ _ ⟨hR.grow hz (by decide) (Ext.alloc _ _) ⟨w'.heap.size, rfl, heap_alloc_new w' _, hx.size⟩, trivial⟩)
    refine ⟨fun L ρ w' hR hC hL hd hk => ?_, ?_⟩
    · obtain ⟨k0, -⟩ := hk
      have e0 : ρ (.tmp 0) = pv q := k0
      clear k0
      refine Par.val_k fun K hK => ?_
      unfold Par.val
      (go_simp; exact hK _ _ ⟨hR.other (by decide), rfl⟩)
    refine ⟨fun L ρ w' hR hC hL hd hk => ?_, ?_⟩
    · obtain ⟨k0, -⟩ := hk
      have e0 : ρ (.tmp 18) = pv q := k0
      clear k0
      refine Par.val_k fun K hK => ?_
      unfold Par.val
      (go_simp; exact hK _ _ ⟨hR.other (by decide), rfl⟩)
    refine ⟨fun L ρ w' hR hC hL hd hk => ?_, ?_⟩
    · obtain ⟨k0, -⟩ := hk
      have e0 : ρ (.tmp 19) = pv q := k0
      clear k0
      refine Par.val_k fun K hK => ?_
      unfold Par.val
      (go_simp; exact hK _ _ ⟨hR.other (by decide), rfl⟩)
    refine ⟨fun L ρ w' hR hC hL hd hk => ?_, ?_⟩
    · obtain ⟨k0, -⟩ := hk
      have e0 : ρ (.tmp 20) = Value.pointer (some ⟨q, 0, none⟩) := k0
      clear k0
      refine Par.val_k fun K hK => ?_
      unfold Par.val
      (have hx := hR.a (hC.notyet 17 5 hL (by kernel_rfl)); have cc := (lk3 (hx.obj HD1.out.hd)).1; go_simp; exact hK _ _ ⟨hR.other (by decide), rfl⟩)
    refine ⟨fun L ρ w' hR hC hL hd hk => ?_, ?_⟩
    · obtain ⟨k0, k1, -⟩ := hk
      have e0 : (fun _ => True) (ρ (.tmp 17))  := k0
      have e1 : ρ (.tmp 21) = Value.slice ao s.rows.length cap := k1
      clear k0 k1
      refine Par.val_k fun K hK => ?_
      unfold Par.val
      (have hz := hC.notyet 17 6 hL (by kernel_rfl); have hx := hR.a hz; obtain ⟨g, eg, hg, hgl⟩ : AddQ W1 x l1 s.rows 17 (ρ (.tmp 17)) w' := hR.get 1 17 6 (by decide) (hC.before 1 (i := 6) rfl hd (by kernel_rfl)) hL; obtain ⟨a9, c9, w9, r1, r2, r3, r4⟩ := run_append_sl (P := Tryd.prog) W1.heap.size 28 28 49 Tryd.underlying28 infoRR rfl (by decide) (emp_own hg hgl) (Sl.of_owns (hx.owns HD1.out.rr)) (encR_one _) (by have := HLR.out; simp [maxLen]; omega) (by have := HLR.out; dsimp only; omega) hx.size; rw [← eg, ← e1] at r1; have hfr := fr_grown r3 r4; exact Par.val_append r1 (hK _ _ ⟨hR.app [] [14] [(13, 29, 14)] hz (by simp) (by simp; exact hC.notyet 14 6 hL (by kernel_rfl)) (by decide) (by intro y hy; simp at hy; subst hy; rintro ⟨g2, eg2, hg2⟩; refine ⟨g2, eg2, fr_at hfr hg2 (fun hm => ?_)⟩; simp [oB, Value.ownBlock] at hm; subst hm; rw [hg] at hg2; cases hg2) (Below.trans hx r4) (by show World.ownsRow _ _ _ _ _ _ _; simpa using r2), trivial⟩))
    refine ⟨fun L ρ w' hR hC hL hd hk => ?_, ?_⟩
    · exact Par.val_of_run rfl ⟨hR.other (by decide), hk.1⟩
    refine ⟨fun L ρ w' hR hC hL hd hk => ?_, ?_⟩
    · obtain ⟨k0, -⟩ := hk
      have e0 : ρ (.tmp 0) = pv q := k0
      clear k0
      refine Par.val_k fun K hK => ?_
      unfold Par.val
      (go_simp; exact hK _ _ ⟨hR.other (by decide), rfl⟩)
    refine ⟨fun L ρ w' hR hC hL hd hk => ?_, ?_⟩
    · obtain ⟨k0, -⟩ := hk
      have e0 : ρ (.tmp 24) = pv q := k0
      clear k0
      refine Par.val_k fun K hK => ?_
      unfold Par.val
      (go_simp; exact hK _ _ ⟨hR.other (by decide), rfl⟩)
    refine ⟨fun L ρ w' hR hC hL hd hk => ?_, ?_⟩
    · obtain ⟨k0, -⟩ := hk
      have e0 : ρ (.tmp 25) = pv q := k0
      clear k0
      refine Par.val_k fun K hK => ?_
      unfold Par.val
      (go_simp; exact hK _ _ ⟨hR.other (by decide), rfl⟩)
    refine ⟨fun L ρ w' hR hC hL hd hk => ?_, ?_⟩
    · obtain ⟨k0, -⟩ := hk
      have e0 : ρ (.tmp 26) = Value.pointer (some ⟨q, 1, none⟩) := k0
      clear k0
      refine Par.val_k fun K hK => ?_
      unfold Par.val
      (have hx := hR.a (hC.notyet 17 11 hL (by kernel_rfl)); have cc := (lk3 (hx.obj HD1.out.hd)).2.1; go_simp; exact hK _ _ ⟨hR.other (by decide), rfl⟩)
    refine ⟨fun L ρ w' hR hC hL hd hk => ?_, ?_⟩
    · obtain ⟨k0, k1, -⟩ := hk
      have e0 : ρ (.tmp 23) = vU x := k0
      have e1 : ρ (.tmp 27) = vU l1 := k1
      clear k0 k1
      refine Par.val_k fun K hK => ?_
      unfold Par.val
      (go_simp; exact hK _ _ ⟨hR.other (by decide), rfl⟩)
    refine ⟨fun L ρ w' hR hC hL hd hk => ?_, ?_⟩
    · obtain ⟨k0, -⟩ := hk
      have e0 : ρ (.tmp 28) = Value.agg #[vU x, vU l1] := k0
      clear k0
      refine Par.val_k fun K hK => ?_
      unfold Par.val
      (have hz := hC.notyet 17 13 hL (by kernel_rfl); have hx := hR.a hz; go_simp; exact hK _ _ ⟨hR.grow hz (by decide) (Ext.alloc _ _) ⟨w'.heap.size, rfl, heap_alloc_new w' _⟩, trivial⟩)
    refine ⟨fun L ρ w' hR hC hL hd hk => ?_, ?_⟩
    · obtain ⟨k0, k1, -⟩ := hk
      have e0 : (fun _ => True) (ρ (.tmp 22))  := k0
      have e1 : (fun _ => True) (ρ (.tmp 29))  := k1
      clear k0 k1
      refine Par.val_k fun K hK => ?_
      unfold Par.val
      (have hz := hC.notyet 17 14 hL (by kernel_rfl); have hx := hR.a hz; have h22 : AddQ W1 x l1 s.rows 22 (ρ (.tmp 22)) w' := hR.get 6 22 14 (by decide) (hC.before 6 (i := 14) rfl hd (by kernel_rfl)) hL; obtain ⟨g, eg, hg⟩ : AddQ W1 x l1 s.rows 29 (ρ (.tmp 29)) w' := hR.get 13 29 14 (by decide) (hC.before 13 (i := 14) rfl hd (by kernel_rfl)) hL; obtain ⟨a9, c9, w9, r1, r2, r3, r4⟩ := run_append_sl (P := Tryd.prog) W1.heap.size 28 28 49 Tryd.underlying28 infoRR rfl (by decide) h22 (row_at (z := (x, l1)) hg) (by intro y hy; simp at hy; rcases hy with rfl | rfl <;> rfl) (by have := HLR.out; simp [maxLen]; omega) (by have := HLR.out; omega) hx.size; rw [← eg] at r1; exact Par.val_append r1 (hK _ _ ⟨hR.app [6] [] [] hz (by simp; exact hC.before 6 (i := 14) rfl hd (by kernel_rfl)) (by simp) (by decide) (by simp) (Below.trans hx r4) r2, trivial⟩))
    refine ⟨fun L ρ w' hR hC hL hd hk => ?_, ?_⟩
    · obtain ⟨k0, -⟩ := hk
      have e0 : ρ (.tmp 16) = pv q := k0
      clear k0
      refine Par.val_k fun K hK => ?_
      unfold Par.val
      (go_simp; exact hK _ _ ⟨hR.other (by decide), rfl⟩)
    refine ⟨fun L ρ w' hR hC hL hd hk => ?_, ?_⟩
    · obtain ⟨k0, -⟩ := hk
      have e0 : ρ (.tmp 31) = pv q := k0
      clear k0
      refine Par.val_k fun K hK => ?_
      unfold Par.val
      (go_simp; exact hK _ _ ⟨hR.other (by decide), rfl⟩)
    refine ⟨fun L ρ w' hR hC hL hd hk => ?_, ?_⟩
    · obtain ⟨k0, k1, -⟩ := hk
      have e0 : ρ (.tmp 32) = Value.pointer (some ⟨q, 0, none⟩) := k0
      have e1 : (fun _ => True) (ρ (.tmp 30))  := k1
      clear k0 k1
      refine Par.val_k fun K hK => ?_
      unfold Par.val
      (have hx := hR.a hL; have h30 : AddQ W1 x l1 s.rows 30 (ρ (.tmp 30)) w' := hR.get 14 30 17 (by decide) (hC.before 14 (i := 17) rfl hd (by kernel_rfl)) hL; have hr := HD1.out.ext hx; obtain ⟨cc, -, -, ff⟩ := lk3 hr.hd; have f0 := ff 0; obtain ⟨o6, c6, h6⟩ := row_shape h30; have e9 : ρ (.tmp 30) = .slice o6 (s.rows.length + 1) c6 := h6; have hset := block_set hr.hd 0 (ρ (.tmp 30)); have hfs : Fr [q] w' (w'.setCell ⟨q, 0, none⟩ (ρ (.tmp 30))) := fr_setCell _ _ _ (by simp); have hres := hid (show (∃ vr', RDD B (w'.setCell ⟨q, 0, none⟩ (ρ (.tmp 30))) q vr' vs { s with last := l1, rows := s.rows ++ [(x, l1)] }) ∧ Fr [q] W1 (w'.setCell ⟨q, 0, none⟩ (ρ (.tmp 30))) from ⟨⟨_, hset, by (have h7 := ownsRow_fr (owns_mono h30 (Nat.le_trans HB.out (Nat.le_trans HX1.out.size HF0.out.size))) hfs (fun b hb hm => by have := row_lo h30 b hb; have h3 := (Array.getElem?_eq_some_iff.1 HD1.out.hd).1; simp at hm; omega); simpa using h7), ownsRow_fr hr.ss hfs (fun b hb hm => hr.sepS b hb (by simp at hm; simp [hm])), hr.lo⟩, (Ext.fr hx).trans hfs⟩); clear hset hfs h30 hr ff; rw [e9] at hres; go_simp; exact hK _ _ ⟨hR.last [6, 14] (by simp; exact ⟨hC.before 6 (i := 17) rfl hd (by kernel_rfl), hC.before 14 (i := 17) rfl hd (by kernel_rfl)⟩) (by decide) hres.out, trivial⟩)
    trivial
  intro a' w' inv hR
  have q16 : a'.tmps.getD 16 undef = pv q := inv.done 0 _ 16 rfl rfl rfl
  have q17 : (fun _ => True) (a'.tmps.getD 17 undef)  := inv.done 1 _ 17 rfl rfl rfl
  have q18 : a'.tmps.getD 18 undef = pv q := inv.done 2 _ 18 rfl rfl rfl
  have q19 : a'.tmps.getD 19 undef = pv q := inv.done 3 _ 19 rfl rfl rfl
  have q20 : a'.tmps.getD 20 undef = Value.pointer (some ⟨q, 0, none⟩) := inv.done 4 _ 20 rfl rfl rfl
  have q21 : a'.tmps.getD 21 undef = Value.slice ao s.rows.length cap := inv.done 5 _ 21 rfl rfl rfl
  have q22 : (fun _ => True) (a'.tmps.getD 22 undef)  := inv.done 6 _ 22 rfl rfl rfl
  have q23 : a'.tmps.getD 23 undef = vU x := inv.done 7 _ 23 rfl rfl rfl
  have q24 : a'.tmps.getD 24 undef = pv q := inv.done 8 _ 24 rfl rfl rfl
  have q25 : a'.tmps.getD 25 undef = pv q := inv.done 9 _ 25 rfl rfl rfl
  have q26 : a'.tmps.getD 26 undef = Value.pointer (some ⟨q, 1, none⟩) := inv.done 10 _ 26 rfl rfl rfl
  have q27 : a'.tmps.getD 27 undef = vU l1 := inv.done 11 _ 27 rfl rfl rfl
  have q28 : a'.tmps.getD 28 undef = Value.agg #[vU x, vU l1] := inv.done 12 _ 28 rfl rfl rfl
  have q29 : (fun _ => True) (a'.tmps.getD 29 undef)  := inv.done 13 _ 29 rfl rfl rfl
  have q30 : (fun _ => True) (a'.tmps.getD 30 undef)  := inv.done 14 _ 30 rfl rfl rfl
  have q31 : a'.tmps.getD 31 undef = pv q := inv.done 15 _ 31 rfl rfl rfl
  have q32 : a'.tmps.getD 32 undef = Value.pointer (some ⟨q, 0, none⟩) := inv.done 16 _ 32 rfl rfl rfl
  clear inv
  simp only [List.filterMap_cons, List.filterMap_nil, Par.putAll, Act.put, List.setIfInBounds_toArray, List.set_cons_succ, List.set_cons_zero, q16, q18, q19, q20, q21, q23, q24, q25, q26, q27, q28, q31, q32]
  clear q16 q18 q19 q20 q21 q23 q24 q25 q26 q27 q28 q31 q32
  obtain ⟨hrd, hf⟩ := Rg.Mx.fin hR (by decide); have HRD := hid hrd; have HF := hid hf; clear hrd hf hR
  generalize a'.tmps.getD 17 undef = u17 at *
  generalize a'.tmps.getD 22 undef = u22 at *
  generalize a'.tmps.getD 29 undef = u29 at *
  generalize a'.tmps.getD 30 undef = u30 at *
  try clear a'
  go_wp2
  go_ret
  unfold RAct
  rw [HA.out]
  obtain ⟨vr', hr⟩ := HRD.out
  exact ⟨rfl, ⟨vr', vs, hr⟩, ((Ext.fr HX1.out).trans (HF0.out.mono (by simp))).trans (HF.out.mono (by simp))⟩
end Go.Proofs.YtfpljeblehieiaaDoor
