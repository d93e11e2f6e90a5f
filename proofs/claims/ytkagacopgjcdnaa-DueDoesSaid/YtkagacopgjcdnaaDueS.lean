/- The document's heap: Drop, Take, Move. -/
import Derived.Test.YtkagacopgjcdnaaDueR
set_option linter.unusedSimpArgs false
set_option linter.unusedVariables false
namespace Go.Proofs.Ytkagacopgjcdnaa
open Go Go.RowKit Go.Tum Go.ChangeMaps Go.Tum.Hp
open Go.ParB (upd Lof)
open Go.ParE (putS slotsR slots Closed)

theorem updE {L : Nat → Bool} {i : Nat} : upd L i i = true := by unfold upd; rw [if_pos rfl]
theorem updN {L : Nat → Bool} {i j : Nat} (h : j ≠ i) : upd L i j = L j := by unfold upd; rw [if_neg h]
/-- What holds inside Drop's region: 1 makes an empty row, 8 and 16 append to it, 19 stores it. -/
structure RD (W : World) (r b : Nat) (L : List Ent) (k m : Nat) (La : Nat → Bool) (σ : Nat → Value) (w : World) : Prop where
  ext : La 19 = false → Ext W w
  sz : La 1 = false → w.heap.size = W.heap.size
  s1 : La 1 = true → La 8 = false → OwE w W.heap.size (.slice (some ⟨W.heap.size, 0, none⟩) 0 0) []
  s2 : La 8 = true → La 16 = false → OwE w W.heap.size (σ 19) (L.take k)
  s3 : La 16 = true → La 19 = false → OwE w W.heap.size (σ 27) (L.take k ++ L.drop m)
  s4 : La 19 = true → Fr [r] W w ∧ RH b w r (L.take k ++ L.drop m)
section
variable {W w w' : World} {r b k m : Nat} {L : List Ent} {La : Nat → Bool} {σ : Nat → Value}
theorem RD.start : RD W r b L k m (fun _ => false) σ { W with drawn := W.drawn + 1 } :=
  ⟨fun _ => Ext.draw W, fun _ => rfl, fun h => by simp at h, fun h => by simp at h, fun h => by simp at h, fun h => by simp at h⟩
theorem RD.other (h : RD W r b L k m La σ w) {i : Nat} {d : Option Nat} {v : Value} (hi : (1 ≠ i ∧ 8 ≠ i ∧ 16 ≠ i ∧ 19 ≠ i) ∧ d ≠ some 19 ∧ d ≠ some 27) : RD W r b L k m (upd La i) (putS σ d v) w := by
  obtain ⟨⟨h1, h8, h16, h19⟩, d1, d2⟩ := hi
  have e1 : putS σ d v 19 = σ 19 := by unfold putS; rw [if_neg d1]
  have e2 : putS σ d v 27 = σ 27 := by unfold putS; rw [if_neg d2]
  refine ⟨by rw [updN h19]; exact h.ext, by rw [updN h1]; exact h.sz, by rw [updN h1, updN h8]; exact h.s1, by rw [updN h8, updN h16, e1]; exact h.s2, by rw [updN h16, updN h19, e2]; exact h.s3, by rw [updN h19]; exact h.s4⟩
theorem RD.one (h : RD W r b L k m La σ w) {v : Value} (n19 : La 19 = false) (n16 : La 16 = false) (n8 : La 8 = false) (hx : Ext W w') (ho : OwE w' W.heap.size (.slice (some ⟨W.heap.size, 0, none⟩) 0 0) []) : RD W r b L k m (upd La 1) (putS σ (some 12) v) w' := by
  refine ⟨fun _ => hx, fun e => (by rw [updE] at e; cases e), fun _ _ => ho, fun e => ?_, fun e => ?_, fun e => ?_⟩
  · rw [updN (by decide), n8] at e; cases e
  · rw [updN (by decide), n16] at e; cases e
  · rw [updN (by decide), n19] at e; cases e
theorem RD.two (h : RD W r b L k m La σ w) {v : Value} (h1 : La 1 = true) (n19 : La 19 = false) (n16 : La 16 = false) (hx : Ext W w') (ho : OwE w' W.heap.size v (L.take k)) : RD W r b L k m (upd La 8) (putS σ (some 19) v) w' := by
  refine ⟨fun _ => hx, fun e => ?_, fun _ e => (by rw [updE] at e; cases e), fun _ _ => ho, fun e => ?_, fun e => ?_⟩
  · rw [updN (by decide), h1] at e; cases e
  · rw [updN (by decide), n16] at e; cases e
  · rw [updN (by decide), n19] at e; cases e
theorem RD.three (h : RD W r b L k m La σ w) {v : Value} (h1 : La 1 = true) (h8 : La 8 = true) (n19 : La 19 = false) (hx : Ext W w') (ho : OwE w' W.heap.size v (L.take k ++ L.drop m)) : RD W r b L k m (upd La 16) (putS σ (some 27) v) w' := by
  refine ⟨fun _ => hx, fun e => ?_, fun _ e => ?_, fun _ e => (by rw [updE] at e; cases e), fun _ _ => ho, fun e => ?_⟩
  · rw [updN (by decide), h1] at e; cases e
  · rw [updN (by decide), h8] at e; cases e
  · rw [updN (by decide), n19] at e; cases e
theorem RD.four (h : RD W r b L k m La σ w) {d : Option Nat} {v : Value} (h1 : La 1 = true) (h8 : La 8 = true) (h16 : La 16 = true) (hf : Fr [r] W w' ∧ RH b w' r (L.take k ++ L.drop m)) : RD W r b L k m (upd La 19) (putS σ d v) w' := by
  refine ⟨fun e => (by rw [updE] at e; cases e), fun e => ?_, fun _ e => ?_, fun _ e => ?_, fun _ e => (by rw [updE] at e; cases e), fun _ => hf⟩
  · rw [updN (by decide), h1] at e; cases e
  · rw [updN (by decide), h8] at e; cases e
  · rw [updN (by decide), h16] at e; cases e
end

def RHDropP (b : Nat) (w : World) (r : Nat) (L : List Ent) (x : UInt64) (e : Ending) (w' : World) : Prop :=
  (x ∉ L.map Prod.fst → e = .returned (.bool false) ∧ w = w') ∧ (x ∈ L.map Prod.fst → e = .returned (.bool true) ∧ RH b w' r (delE L x) ∧ Fr [r] w w')
set_option maxRecDepth 100000 in
set_option maxHeartbeats 1000000 in
theorem rhdrop_any (b : Nat) (w : World) (r : Nat) (E : List Ent) (x : UInt64) (h : RH b w r E) (hb : b ≤ w.heap.size) (hl : E.length ≤ 10000) (hn : (E.map Prod.fst).Nodup) :
    Calls Try.prog 13 #[pv r, vU x] w fun e w' => RHDropP b w r E x e w' := by
  have HR := hid h
  rcases fdE_step (L := E) (x := x) with ⟨k, hk, h1, h2, hf⟩ | ⟨hnx, hf⟩
  · obtain ⟨v, hr, ho⟩ := h
    have HB := hid hr
    have C0 := hid (box1 hr).1
    have HS := hid ho.sl
    obtain ⟨ao, cap, rfl, hle, hm, hnn, -⟩ := ho.rows.open
    obtain ⟨g, rfl⟩ := hnn (by omega)
    have HX : Hid (x ∈ E.map Prod.fst) := hid (by rw [← h2]; exact List.mem_map_of_mem (f := Prod.fst) (List.getElem_mem hk))
    obtain ⟨m, hmk⟩ : ∃ m, m = k + 1 := ⟨_, rfl⟩
    have HD : Hid (E.take k ++ E.drop m = delE E x) := hid (by rw [hmk]; exact delE_at hn hk h2)
    have hw1 : IntKind.i64.wrap ((k : Int) + 1) = (m : Int) := by rw [IntWalk.i64_in _ (by omega)]; omega
    have hml : m ≤ E.length := by omega
    have hkc : k ≤ cap := by omega
    have HMK := hid hmk
    have HF := hid hf
    have hd : decide ((k : Int) < 0) = false := by simp
    clear hr ho hnn h1 h2 hf hn hmk
    go_enter Try.func13, Try.ntmps13
    go_wp2_with fail
    refine (rfind_any b _ r E x HR.out).mono ?_
    rintro e w1 ⟨rfl, rfl⟩
    rw [HF.out]
    go_wp2_with fail
    refine ParE.wp_region_e (l := [_, _, _, _, _, _, _, _, _, _, _, _, _, _, _, _, _, _, _, _]) rfl (RD w r b E k m) (ParC.VC [ParC.EQ (Value.pointer (some ⟨r, 0, none⟩)), ParC.EQ (Value.slice (some ⟨w.heap.size, 0, none⟩) 0 0), ParC.EQ (Value.pointer (some ⟨r, 0, none⟩)), ParC.EQ (Value.pointer (some ⟨r, 0, none⟩)), ParC.EQ (Value.pointer (some ⟨r, 0, none⟩)), ParC.EQ (Value.slice (some g) E.length cap), ParC.EQ (Value.int IntKind.i64 (k : Int)), ParC.EQ (Value.slice (some g) k cap), (fun _ => True), ParC.EQ (Value.pointer (some ⟨r, 0, none⟩)), ParC.EQ (Value.pointer (some ⟨r, 0, none⟩)), ParC.EQ (Value.pointer (some ⟨r, 0, none⟩)), ParC.EQ (Value.slice (some g) E.length cap), ParC.EQ (Value.int IntKind.i64 (k : Int)), ParC.EQ (Value.int IntKind.i64 (m : Int)), (fun v => ∃ c : Option Addr × Nat, v = Value.slice c.1 (E.length - m) c.2 ∧ SlE w v (E.drop m)), (fun _ => True), ParC.EQ (Value.pointer (some ⟨r, 0, none⟩)), ParC.EQ (Value.pointer (some ⟨r, 0, none⟩)), fun _ => True]) (by kernel_rfl) (by kernel_rfl) (RD.start) ?_ ?_
    · refine ⟨fun L ρ w' hR hC hL hd hk => ?_, ?_⟩
      · exact Par.val_of_run rfl ⟨hR.other (by decide), hk.1⟩
      refine ⟨fun L ρ w' hR hC hL hd hk => ?_, ?_⟩
      · obtain ⟨-⟩ := hk
        skip
        refine Par.val_k fun K hK => ?_
        unfold Par.val
        (have n19 := hC.notyet 19 1 hL (by kernel_rfl); have hz := hR.sz hL; have hl0 := OwE.lit0 w' w'.heap.size (Nat.le_refl _); rw [hz] at hl0; go_simp; exact hK _ _ ⟨hR.one n19 (hC.notyet 16 1 hL (by kernel_rfl)) (hC.notyet 8 1 hL (by kernel_rfl)) ((hR.ext n19).trans (Ext.alloc _ _)) hl0, rfl⟩)
      refine ⟨fun L ρ w' hR hC hL hd hk => ?_, ?_⟩
      · exact Par.val_of_run rfl ⟨hR.other (by decide), hk.1⟩
      refine ⟨fun L ρ w' hR hC hL hd hk => ?_, ?_⟩
      · obtain ⟨k0, -⟩ := hk
        have e0 : ρ (.tmp 13) = Value.pointer (some ⟨r, 0, none⟩) := k0
        clear k0
        refine Par.val_k fun K hK => ?_
        unfold Par.val
        (go_simp; exact hK _ _ ⟨hR.other (by decide), rfl⟩)
      refine ⟨fun L ρ w' hR hC hL hd hk => ?_, ?_⟩
      · obtain ⟨k0, -⟩ := hk
        have e0 : ρ (.tmp 14) = Value.pointer (some ⟨r, 0, none⟩) := k0
        clear k0
        refine Par.val_k fun K hK => ?_
        unfold Par.val
        (go_simp; exact hK _ _ ⟨hR.other (by decide), rfl⟩)
      refine ⟨fun L ρ w' hR hC hL hd hk => ?_, ?_⟩
      · obtain ⟨k0, -⟩ := hk
        have e0 : ρ (.tmp 15) = Value.pointer (some ⟨r, 0, none⟩) := k0
        clear k0
        refine Par.val_k fun K hK => ?_
        unfold Par.val
        (have c := (hR.ext (hC.notyet 19 5 hL (by kernel_rfl))).cell C0.out; go_simp; exact hK _ _ ⟨hR.other (by decide), rfl⟩)
      refine ⟨fun L ρ w' hR hC hL hd hk => ?_, ?_⟩
      · exact Par.val_of_run rfl ⟨hR.other (by decide), hk.1⟩
      refine ⟨fun L ρ w' hR hC hL hd hk => ?_, ?_⟩
      · obtain ⟨k0, k1, -⟩ := hk
        have e0 : ρ (.tmp 16) = Value.slice (some g) E.length cap := k0
        have e1 : ρ (.tmp 17) = Value.int IntKind.i64 (k : Int) := k1
        clear k0 k1
        refine Par.val_k fun K hK => ?_
        unfold Par.val
        (go_simp; exact hK _ _ ⟨hR.other (by decide), rfl⟩)
      refine ⟨fun L ρ w' hR hC hL hd hk => ?_, ?_⟩
      · obtain ⟨k0, k1, -⟩ := hk
        have e0 : ρ (.tmp 12) = Value.slice (some ⟨w.heap.size, 0, none⟩) 0 0 := k0
        have e1 : ρ (.tmp 18) = Value.slice (some g) k cap := k1
        clear k0 k1
        refine Par.val_k fun K hK => ?_
        unfold Par.val
        (have n19 := hC.notyet 19 8 hL (by kernel_rfl); have h1 := hC.before 1 (i := 8) rfl hd (by kernel_rfl); have hX := hR.ext n19; have ho : OwE w' w.heap.size (ρ (.tmp 12)) [] := (by rw [e0]; exact hR.s1 h1 hL); have hs : SlE w' (ρ (.tmp 18)) (E.take k) := (by rw [e1]; exact (HS.out.ext hX).take k (by omega)); obtain ⟨a2, c2, w2, hr, ho2, hg2, hb2⟩ := run_append_ent w.heap.size 28 ho hs (by simp; omega) hX.size; refine Par.val_append hr (hK _ _ ⟨hR.two h1 n19 (hC.notyet 16 8 hL (by kernel_rfl)) (Below.trans hX hb2) ?_, trivial⟩); simpa using ho2)
      refine ⟨fun L ρ w' hR hC hL hd hk => ?_, ?_⟩
      · exact Par.val_of_run rfl ⟨hR.other (by decide), hk.1⟩
      refine ⟨fun L ρ w' hR hC hL hd hk => ?_, ?_⟩
      · obtain ⟨k0, -⟩ := hk
        have e0 : ρ (.tmp 20) = Value.pointer (some ⟨r, 0, none⟩) := k0
        clear k0
        refine Par.val_k fun K hK => ?_
        unfold Par.val
        (go_simp; exact hK _ _ ⟨hR.other (by decide), rfl⟩)
      refine ⟨fun L ρ w' hR hC hL hd hk => ?_, ?_⟩
      · obtain ⟨k0, -⟩ := hk
        have e0 : ρ (.tmp 21) = Value.pointer (some ⟨r, 0, none⟩) := k0
        clear k0
        refine Par.val_k fun K hK => ?_
        unfold Par.val
        (go_simp; exact hK _ _ ⟨hR.other (by decide), rfl⟩)
      refine ⟨fun L ρ w' hR hC hL hd hk => ?_, ?_⟩
      · obtain ⟨k0, -⟩ := hk
        have e0 : ρ (.tmp 22) = Value.pointer (some ⟨r, 0, none⟩) := k0
        clear k0
        refine Par.val_k fun K hK => ?_
        unfold Par.val
        (have c := (hR.ext (hC.notyet 19 12 hL (by kernel_rfl))).cell C0.out; go_simp; exact hK _ _ ⟨hR.other (by decide), rfl⟩)
      refine ⟨fun L ρ w' hR hC hL hd hk => ?_, ?_⟩
      · exact Par.val_of_run rfl ⟨hR.other (by decide), hk.1⟩
      refine ⟨fun L ρ w' hR hC hL hd hk => ?_, ?_⟩
      · obtain ⟨k0, k1, -⟩ := hk
        have e0 : ρ (.tmp 24) = Value.int IntKind.i64 (k : Int) := k0
        have e1 : ρ (Operand.const (Value.int IntKind.i64 1)) = (Value.int IntKind.i64 1) := k1
        clear k0 k1
        refine Par.val_k fun K hK => ?_
        unfold Par.val
        (go_simp; exact hK _ _ ⟨hR.other (by decide), rfl⟩)
      refine ⟨fun L ρ w' hR hC hL hd hk => ?_, ?_⟩
      · obtain ⟨k0, k1, -⟩ := hk
        have e0 : ρ (.tmp 23) = Value.slice (some g) E.length cap := k0
        have e1 : ρ (.tmp 25) = Value.int IntKind.i64 (m : Int) := k1
        clear k0 k1
        refine Par.val_k fun K hK => ?_
        unfold Par.val
        (go_simp; exact hK _ _ ⟨hR.other (by decide), ⟨(_, _), rfl, HS.out.drop m (by omega) _ (by first | rfl | (rw [if_neg (by omega)]; rfl) | simp) _ _ (by omega) (by omega)⟩⟩)
      refine ⟨fun L ρ w' hR hC hL hd hk => ?_, ?_⟩
      · obtain ⟨k0, k1, -⟩ := hk
        have e0 : (fun _ => True) (ρ (.tmp 19))  := k0
        have e1 : (fun v => ∃ c : Option Addr × Nat, v = Value.slice c.1 (E.length - m) c.2 ∧ SlE w v (E.drop m)) (ρ (.tmp 26))  := k1
        clear k0 k1
        refine Par.val_k fun K hK => ?_
        unfold Par.val
        (have n19 := hC.notyet 19 16 hL (by kernel_rfl); have h1 := hC.before 1 (i := 16) rfl hd (by kernel_rfl); have h8 := hC.before 8 (i := 16) rfl hd (by kernel_rfl); have hX := hR.ext n19; have ho : OwE w' w.heap.size (ρ (.tmp 19)) (E.take k) := hR.s2 h8 hL; obtain ⟨c, -, hsl⟩ := e1; have hs := hsl.ext hX; obtain ⟨a2, c2, w2, hr, ho2, hg2, hb2⟩ := run_append_ent w.heap.size 28 ho hs (by simp; omega) hX.size; exact Par.val_append hr (hK _ _ ⟨hR.three h1 h8 n19 (Below.trans hX hb2) (by simpa using ho2), trivial⟩))
      refine ⟨fun L ρ w' hR hC hL hd hk => ?_, ?_⟩
      · obtain ⟨k0, -⟩ := hk
        have e0 : ρ (.tmp 11) = Value.pointer (some ⟨r, 0, none⟩) := k0
        clear k0
        refine Par.val_k fun K hK => ?_
        unfold Par.val
        (go_simp; exact hK _ _ ⟨hR.other (by decide), rfl⟩)
      refine ⟨fun L ρ w' hR hC hL hd hk => ?_, ?_⟩
      · obtain ⟨k0, -⟩ := hk
        have e0 : ρ (.tmp 28) = Value.pointer (some ⟨r, 0, none⟩) := k0
        clear k0
        refine Par.val_k fun K hK => ?_
        unfold Par.val
        (go_simp; exact hK _ _ ⟨hR.other (by decide), rfl⟩)
      refine ⟨fun L ρ w' hR hC hL hd hk => ?_, ?_⟩
      · obtain ⟨k0, k1, -⟩ := hk
        have e0 : ρ (.tmp 29) = Value.pointer (some ⟨r, 0, none⟩) := k0
        have e1 : (fun _ => True) (ρ (.tmp 27))  := k1
        clear k0 k1
        refine Par.val_k fun K hK => ?_
        unfold Par.val
        (have h1 := hC.before 1 (i := 19) rfl hd (by kernel_rfl); have h8 := hC.before 8 (i := 19) rfl hd (by kernel_rfl); have h16 := hC.before 16 (i := 19) rfl hd (by kernel_rfl); have hX := hR.ext hL; have ho := hR.s3 h16 hL; obtain ⟨q1, q2⟩ := RH.stored hb HB.out hX ho; obtain ⟨c, f⟩ := box1 (hX.obj HB.out); obtain ⟨a3, c3, e3⟩ := ho.shape; obtain ⟨n3, hn3⟩ : ∃ n, (E.take k ++ E.drop m).length = n := ⟨_, rfl⟩; rw [hn3] at e3; have e4 : ρ (.tmp 27) = _ := e3; clear hn3; go_simp; exact hK _ _ ⟨hR.four h1 h8 h16 ⟨by rw [show slotsR ρ 27 = _ from e3] at q2; exact q2, by rw [show slotsR ρ 27 = _ from e3] at q1; exact q1⟩, trivial⟩)
      trivial
    intro a' w' inv hR
    have q11 : a'.tmps.getD 11 undef = Value.pointer (some ⟨r, 0, none⟩) := inv.done 0 _ 11 rfl rfl rfl
    have q12 : a'.tmps.getD 12 undef = Value.slice (some ⟨w.heap.size, 0, none⟩) 0 0 := inv.done 1 _ 12 rfl rfl rfl
    have q13 : a'.tmps.getD 13 undef = Value.pointer (some ⟨r, 0, none⟩) := inv.done 2 _ 13 rfl rfl rfl
    have q14 : a'.tmps.getD 14 undef = Value.pointer (some ⟨r, 0, none⟩) := inv.done 3 _ 14 rfl rfl rfl
    have q15 : a'.tmps.getD 15 undef = Value.pointer (some ⟨r, 0, none⟩) := inv.done 4 _ 15 rfl rfl rfl
    have q16 : a'.tmps.getD 16 undef = Value.slice (some g) E.length cap := inv.done 5 _ 16 rfl rfl rfl
    have q17 : a'.tmps.getD 17 undef = Value.int IntKind.i64 (k : Int) := inv.done 6 _ 17 rfl rfl rfl
    have q18 : a'.tmps.getD 18 undef = Value.slice (some g) k cap := inv.done 7 _ 18 rfl rfl rfl
    have q19 : (fun _ => True) (a'.tmps.getD 19 undef)  := inv.done 8 _ 19 rfl rfl rfl
    have q20 : a'.tmps.getD 20 undef = Value.pointer (some ⟨r, 0, none⟩) := inv.done 9 _ 20 rfl rfl rfl
    have q21 : a'.tmps.getD 21 undef = Value.pointer (some ⟨r, 0, none⟩) := inv.done 10 _ 21 rfl rfl rfl
    have q22 : a'.tmps.getD 22 undef = Value.pointer (some ⟨r, 0, none⟩) := inv.done 11 _ 22 rfl rfl rfl
    have q23 : a'.tmps.getD 23 undef = Value.slice (some g) E.length cap := inv.done 12 _ 23 rfl rfl rfl
    have q24 : a'.tmps.getD 24 undef = Value.int IntKind.i64 (k : Int) := inv.done 13 _ 24 rfl rfl rfl
    have q25 : a'.tmps.getD 25 undef = Value.int IntKind.i64 (m : Int) := inv.done 14 _ 25 rfl rfl rfl
    have q26 : (fun v => ∃ c : Option Addr × Nat, v = Value.slice c.1 (E.length - m) c.2 ∧ SlE w v (E.drop m)) (a'.tmps.getD 26 undef)  := inv.done 15 _ 26 rfl rfl rfl
    have q27 : (fun _ => True) (a'.tmps.getD 27 undef)  := inv.done 16 _ 27 rfl rfl rfl
    have q28 : a'.tmps.getD 28 undef = Value.pointer (some ⟨r, 0, none⟩) := inv.done 17 _ 28 rfl rfl rfl
    have q29 : a'.tmps.getD 29 undef = Value.pointer (some ⟨r, 0, none⟩) := inv.done 18 _ 29 rfl rfl rfl
    clear inv
    simp only [List.filterMap_cons, List.filterMap_nil, Par.putAll, Act.put, List.setIfInBounds_toArray, List.set_cons_succ, List.set_cons_zero, q11, q12, q13, q14, q15, q16, q17, q18, q20, q21, q22, q23, q24, q25, q28, q29]
    clear q11 q12 q13 q14 q15 q16 q17 q18 q20 q21 q22 q23 q24 q25 q28 q29
    generalize a'.tmps.getD 19 undef = u19 at *
    generalize a'.tmps.getD 26 undef = u26 at *
    generalize a'.tmps.getD 27 undef = u27 at *
    try clear a'
    obtain ⟨q2, q1⟩ := hR.s4 rfl
    rw [HD.out] at q1
    clear hR
    go_wp2
    go_ret
    exact ⟨fun hn => absurd HX.out hn, fun _ => ⟨rfl, q1, q2⟩⟩
  · have HF := hid hf
    have HN := hid hnx
    clear hf hnx
    go_enter Try.func13, Try.ntmps13
    go_wp2_with fail
    refine (rfind_any b _ r E x HR.out).mono ?_
    rintro e w1 ⟨rfl, rfl⟩
    rw [HF.out]
    go_wp2
    go_ret
    exact ⟨fun _ => ⟨rfl, rfl⟩, fun hx => absurd hx HN.out⟩
def RHTakeP (b : Nat) (w : World) (r : Nat) (E : List Ent) (now : UInt64) (e : Ending) (w' : World) : Prop :=
  ((E = [] ∨ ∃ z M, E = z :: M ∧ now.toNat < z.2.toNat) ∧ e = .returned noneV ∧ Ext w w') ∨
  (∃ z M, E = z :: M ∧ z.2.toNat ≤ now.toNat ∧ e = .returned (.tuple #[vU z.1, vU z.2, .bool true]) ∧ RH b w' r (delE E z.1) ∧ Fr [r] w w')
set_option maxHeartbeats 1000000 in
theorem rhtake_any (b : Nat) (w : World) (r : Nat) (E : List Ent) (now : UInt64) (h : RH b w r E) (hb : b ≤ w.heap.size) (hl : E.length ≤ 10000) (hn : (E.map Prod.fst).Nodup) :
    Calls Try.prog 11 #[pv r, vU now] w fun e w' => RHTakeP b w r E now e w' := by
  cases E with
  | nil =>
    go_enter Try.func11, Try.ntmps11
    go_wp2_with fail
    refine (rhfirst_any b w r _ h).mono ?_
    rintro e w1 ⟨rfl, E1⟩
    rw [show fstE [] = .tuple #[.int .u64 0, .int .u64 0, .bool false] from rfl]
    go_wp2
    go_returns
    exact .inl ⟨.inl rfl, rfl, E1⟩
  | cons z M =>
    obtain ⟨zi, zt⟩ := z
    by_cases hle : now.toNat < zt.toNat
    · have hd : decide (now.toNat < zt.toNat) = true := by simpa using hle
      have HLE := hid hle
      clear hle
      go_enter Try.func11, Try.ntmps11
      go_wp2_with fail
      refine (rhfirst_any b w r _ h).mono ?_
      rintro e w1 ⟨rfl, E1⟩
      rw [show fstE ((zi, zt) :: M) = .tuple #[vU zi, vU zt, .bool true] from rfl]
      go_wp2
      go_returns
      exact .inl ⟨.inr ⟨(zi, zt), M, rfl, HLE.out⟩, rfl, E1⟩
    · have hd : decide (now.toNat < zt.toNat) = false := by simpa using hle
      have HLE := hid hle
      clear hle
      go_enter Try.func11, Try.ntmps11
      go_wp2_with fail
      refine (rhfirst_any b w r _ h).mono ?_
      rintro e w1 ⟨rfl, E1⟩
      rw [show fstE ((zi, zt) :: M) = .tuple #[vU zi, vU zt, .bool true] from rfl]
      have h1 := h.ext E1
      go_wp2_with fail
      refine (rhdrop_any b w1 r _ zi h1 (Nat.le_trans hb E1.size) hl hn).mono ?_
      rintro e w2 ⟨-, h2⟩
      obtain ⟨rfl, hH, hF⟩ := h2 (by simp)
      have HH := hid hH
      have HF := hid ((Ext.fr (S := [r]) E1).trans hF)
      clear hH hF h1 h
      go_wp2
      go_returns
      exact .inr ⟨(zi, zt), M, rfl, by show zt.toNat ≤ now.toNat; have := HLE.out; omega, rfl, HH.out, HF.out⟩
def RHMoveP (b : Nat) (w : World) (r : Nat) (E : List Ent) (x a : UInt64) (e : Ending) (w' : World) : Prop :=
  (x ∉ E.map Prod.fst → e = .returned (.bool false) ∧ w = w') ∧ (x ∈ E.map Prod.fst → e = .returned (.bool true) ∧ RH b w' r (insE (delE E x) (x, a)) ∧ Fr [r] w w')
theorem delE_out (E : List Ent) (x : UInt64) : x ∉ (delE E x).map Prod.fst := by
  intro h
  obtain ⟨z, hz, e⟩ := List.mem_map.1 h
  have := (List.mem_filter.1 hz).2
  simp [e] at this
theorem delE_len (E : List Ent) (x : UInt64) : (delE E x).length ≤ E.length := List.length_filter_le _ _
set_option maxHeartbeats 1000000 in
theorem rhmove_any (b : Nat) (w : World) (r : Nat) (E : List Ent) (x a : UInt64) (h : RH b w r E) (hb : b ≤ w.heap.size) (hl : E.length ≤ 10000) (hn : (E.map Prod.fst).Nodup) :
    Calls Try.prog 15 #[pv r, vU x, vU a] w fun e w' => RHMoveP b w r E x a e w' := by
  have HR := hid h
  by_cases hx : x ∈ E.map Prod.fst
  · have HX := hid hx
    have HN := hid hn
    clear h hx hn
    go_enter Try.func15, Try.ntmps15
    go_wp2_with fail
    refine (rhdrop_any b w r E x HR.out hb hl HN.out).mono ?_
    rintro e w1 ⟨-, h1⟩
    obtain ⟨rfl, H1, F1⟩ := h1 HX.out
    have HH1 := hid H1
    have HF1 := hid F1
    clear h1 H1 F1
    go_wp2_with fail
    refine (rhput_any b w1 r (delE E x) x a HH1.out (Nat.le_trans hb HF1.out.size) (Nat.le_trans (delE_len E x) hl)).mono ?_
    rintro e w2 ⟨-, h2⟩
    obtain ⟨rfl, H2, F2⟩ := h2 (delE_out E x)
    have HH2 := hid H2
    have HF2 := hid (HF1.out.trans F2)
    clear h2 H2 F2
    go_wp2
    go_ret
    exact ⟨fun hn => absurd HX.out hn, fun _ => ⟨rfl, HH2.out, HF2.out⟩⟩
  · have HX := hid hx
    have HN := hid hn
    clear h hx hn
    go_enter Try.func15, Try.ntmps15
    go_wp2_with fail
    refine (rhdrop_any b w r E x HR.out hb hl HN.out).mono ?_
    rintro e w1 ⟨h1, -⟩
    obtain ⟨rfl, rfl⟩ := h1 HX.out
    clear h1
    go_wp2
    go_ret
    exact ⟨fun _ => ⟨rfl, rfl⟩, fun hn => absurd hn HX.out⟩
end Go.Proofs.Ytkagacopgjcdnaa
