/- LaneDoes. -/
import Derived.Test.YtlnghgalmhmegaaLanJ
import Derived.Test.YtlnghgalmhmegaaParC
set_option linter.unusedSimpArgs false
set_option linter.unusedVariables false
namespace Go.Proofs.Ytlnghgalmhmegaa
open Go Go.RowKit Go.Tum Go.ChangeMaps Go.Shelf
open Go.ParB (upd Lof)

abbrev actO (d : Int) (x : UInt64) : Obj := .cells #[.int .i64 d, vU x] 32 (0, 0)
theorem Lane.notact {w : World} {p m g : Nat} {l : List (UInt64 × Nat)} (h : Lane w p m l) {d : Int} {y : UInt64} (hg : w.heap[g]? = some (actO d y)) : g ∉ Bl p m l := by
  intro hx
  simp only [List.mem_cons, List.mem_map] at hx
  rcases hx with rfl | rfl | ⟨q, hq, rfl⟩
  · rw [h.hd] at hg; simp at hg
  · obtain ⟨es, c, h2⟩ := h.mp.block
    rw [h2] at hg; cases hg
  · obtain ⟨a, b, h1⟩ := h.ch.mem q hq
    rw [h1] at hg; simp at hg
theorem RL.notact {b : Nat} {w : World} {r g : Nat} {I : List UInt64} (h : RL b w r I) {d : Int} {y : UInt64} (hg : w.heap[g]? = some (actO d y)) : g ≠ r := by
  rintro rfl
  obtain ⟨v, h, -⟩ := h
  rw [h] at hg; simp at hg

/-- What holds inside a region that acts on both lanes: the package's by its operation 3, then the document's by its operation 7. -/
structure R2 (ws : World) (p m r bx : Nat) (l1 : List (UInt64 × Nat)) (I I2 : List UInt64) (d : Int) (x : UInt64) (L : Nat → Bool) (w : World) : Prop where
  ext : Ext ws w
  box : w.heap[bx]? = some (actO d x)
  ord : L 7 = true → L 3 = true
  s0 : L 3 = false → LB ws.heap.size w p m l1 I ∧ RL ws.heap.size w r I
  s1 : L 3 = true → L 7 = false → ∃ l3, LB ws.heap.size w p m l3 I2 ∧ RL ws.heap.size w r I
  s2 : L 7 = true → ∃ l3, LB ws.heap.size w p m l3 I2 ∧ RL ws.heap.size w r I2
section
variable {ws w w' : World} {p m r bx : Nat} {l1 : List (UInt64 × Nat)} {I I2 : List UInt64} {d : Int} {x : UInt64} {L : Nat → Bool}
theorem R2.start (hE : Ext ws w) (hb : w.heap[bx]? = some (actO d x)) (hL : LB ws.heap.size w p m l1 I) (hR : RL ws.heap.size w r I) : R2 ws p m r bx l1 I I2 d x (fun _ => false) { w with drawn := w.drawn + 1 } :=
  ⟨hE.trans (Ext.draw w), (Ext.draw w).obj hb, fun h => by simp at h, fun _ => ⟨hL.ext (Ext.draw w), hR.ext (Ext.draw w)⟩, fun h => by simp at h, fun h => by simp at h⟩
theorem upd_ne {L : Nat → Bool} {i j : Nat} (h : j ≠ i) : upd L i j = L j := by unfold upd; rw [if_neg h]
theorem upd_eq {L : Nat → Bool} {i : Nat} : upd L i i = true := by unfold upd; rw [if_pos rfl]
theorem R2.other (h : R2 ws p m r bx l1 I I2 d x L w) {i : Nat} (h3 : 3 ≠ i) (h7 : 7 ≠ i) : R2 ws p m r bx l1 I I2 d x (upd L i) w :=
  ⟨h.ext, h.box, by rw [upd_ne h3, upd_ne h7]; exact h.ord, by rw [upd_ne h3]; exact h.s0, by rw [upd_ne h3, upd_ne h7]; exact h.s1, by rw [upd_ne h7]; exact h.s2⟩
theorem R2.bx_lt (h : R2 ws p m r bx l1 I I2 d x L w) : bx < w.heap.size := (Array.getElem?_eq_some_iff.1 h.box).1
theorem R2.three (h : R2 ws p m r bx l1 I I2 d x L w) (hL : L 3 = false) {l3 : List (UInt64 × Nat)} (h3 : LB ws.heap.size w' p m l3 I2) (f : Fr (Bl p m l1) w w') (b : Below ws.heap.size w w') : R2 ws p m r bx l1 I I2 d x (upd L 3) w' := by
  obtain ⟨a1, a2⟩ := h.s0 hL
  have hr := a2.lane a1.ln f
  refine ⟨Below.trans h.ext b, (f.block bx h.bx_lt (a1.ln.notact h.box)).trans h.box, fun _ => upd_eq, fun e => (by rw [upd_eq] at e; cases e), fun _ _ => ⟨l3, h3, hr⟩, fun e => ?_⟩
  rw [upd_ne (by decide)] at e
  have := h.ord e
  rw [hL] at this; cases this
theorem R2.seven (h : R2 ws p m r bx l1 I I2 d x L w) (hL3 : L 3 = true) (hL : L 7 = false) (hr : RL ws.heap.size w' r I2) (f : Fr [r] w w') (hB : ws.heap.size ≤ r) (hB2 : ws.heap.size ≤ w.heap.size) : R2 ws p m r bx l1 I I2 d x (upd L 7) w' := by
  obtain ⟨l3, a1, a2⟩ := h.s1 hL3 hL
  have hn := a1.ln.notref a2
  refine ⟨Below.trans h.ext (f.below (by simpa using hB) hB2), (f.block bx h.bx_lt (by simpa using a2.notact h.box)).trans h.box, fun _ => by rw [upd_ne (by decide)]; exact hL3, fun e => ?_, fun _ e => (by rw [upd_eq] at e; cases e), fun _ => ⟨l3, a1.fr f fun q hq hq2 => hn (by simp at hq2; rw [← hq2]; exact hq), hr⟩⟩
  rw [upd_ne (by decide), hL3] at e; cases e
end
theorem fr_one {B : Nat} {w w' : World} {r : Nat} (f : Fr [r] w w') (hB : B ≤ r) (hB2 : B ≤ w.heap.size) : Below B w w' := f.below (by simpa using hB) hB2
theorem LB.ref {B b : Nat} {w w' : World} {p m r : Nat} {l : List (UInt64 × Nat)} {I J : List UInt64} (h : LB B w p m l I) (k : RL b w r J) (f : Fr [r] w w') : LB B w' p m l I := by
  have hn := h.ln.notref k
  exact h.fr f fun q hq hq2 => hn (by simp at hq2; rw [← hq2]; exact hq)
theorem LB.nd {B : Nat} {w : World} {p m : Nat} {l : List (UInt64 × Nat)} {I : List UInt64} (h : LB B w p m l I) : I.Nodup := by rw [← h.ii]; exact h.ln.ni
theorem tail_len (I : List UInt64) : I.tail.length ≤ I.length := by simp

set_option maxRecDepth 100000 in
set_option maxHeartbeats 2000000 in
theorem laneDoes_law (v : Value) (X : List Act2) (id : UInt64) (w : World) (hb : RowsOf w 2 v a2cells X) :
    Calls Try.prog 3 #[v, vU id] w fun e w' => e = .returned (.bool true) ∧ Ext w w' := by
  obtain ⟨ao, cap, rfl, hle, hm, hnn, hcell⟩ := hb.open
  have HC := hid hcell
  have HNN := hid hnn
  clear hb hcell hnn
  go_enter Try.func3, Try.ntmps3
  go_wp2_with fail
  refine (awake_any _).mono ?_
  rintro e w1 ⟨rfl, hw⟩
  have HE1 := hid hw
  clear hw
  by_cases h1 : 200 < X.length
  · have hd : decide ((200 : Int) < X.length) = true := by simp; omega
    go_wp2
    go_ret
    exact ⟨rfl, HE1.out⟩
  have hd : decide ((200 : Int) < X.length) = false := by simp; omega
  go_wp2_with fail
  clear hd
  refine (new_b w.heap.size _ HE1.out.size).mono ?_
  rintro e w2 ⟨p, m, rfl, L2, E2, -, -⟩
  have HE2 : Hid (Ext w w2) := hid (HE1.out.trans E2)
  have HL2 := hid L2
  clear L2 E2 HE1
  have HE3 : Hid (Ext w (w2.alloc (.cells #[.slice none 0 0] 30))) := hid (HE2.out.trans (Ext.alloc _ _))
  have HL3 := hid (HL2.out.ext (Ext.alloc w2 (.cells #[.slice none 0 0] 30)))
  have HR3 : Hid (RL w.heap.size (w2.alloc (.cells #[.slice none 0 0] 30)) w2.heap.size []) := hid ⟨_, heap_alloc_new _ _, OwV.nil _ _ _⟩
  have HBr := hid HE2.out.size
  clear HL2 HE2
  go_wp2
  obtain ⟨r, hr⟩ : ∃ r, w2.heap.size = r := ⟨_, rfl⟩
  rw [hr] at HR3 HBr
  rw [hr]
  clear hr
  go_loopw [28] (fun i wr => ∃ (k : Nat) (l1 : List (UInt64 × Nat)) (I : List UInt64), k ≤ X.length ∧ i = .int .i64 k ∧ Hid (I.length ≤ k) ∧ Hid (LB w.heap.size wr p m l1 I) ∧ Hid (RL w.heap.size wr r I) ∧ Hid (Ext w wr)) (fun i _ => X.length - (intOf i).toNat)
  case atStart => exact ⟨0, [], [], by omega, rfl, hid (Nat.le_refl _), HL3, HR3, HE3⟩
  case round =>
    obtain ⟨k, l1, I, hk, rfl, HN, HL, HR, HE⟩ := hrel
    by_cases hlt : k < X.length
    · obtain ⟨a, rfl⟩ := HNN.out (by omega)
      have c0 := cell_first (HE.out.cell (HC.out a rfl k hlt 0 _ rfl))
      have c1 := cell_next (HE.out.cell (HC.out a rfl k hlt 1 _ rfl)) (by decide)
      obtain ⟨d, hd⟩ : ∃ d, X[k].1 = d := ⟨_, rfl⟩
      obtain ⟨x, hx⟩ : ∃ x, X[k].2 = x := ⟨_, rfl⟩
      rw [hd] at c0
      rw [hx] at c1
      clear hd hx
      have hi1 : decide ((k : Int) < X.length) = true := by simp; omega
      have HL4 := hid (HL.out.ext (Ext.alloc wr (actO d x)))
      have HR4 := hid (HR.out.ext (Ext.alloc wr (actO d x)))
      have HE4 : Hid (Ext w (wr.alloc (actO d x))) := hid (HE.out.trans (Ext.alloc wr (actO d x)))
      have HB4 := hid (heap_alloc_new wr (actO d x))
      by_cases hd0 : d = 0
      · subst hd0
        go_wp2_with fail
        obtain ⟨BB, hBB⟩ : ∃ BB, decide (x ∉ I) = BB := ⟨_, rfl⟩
        have HBB := hid hBB
        clear hBB
        have HN5 : Hid ((putL x I).length ≤ k + 1) := hid (by have := putL_len x I; have := HN.out; omega)
        refine ParC.wp_region_c (l := [_, _, _, _, _, _, _, _, _, _]) rfl (R2 w p m r wr.heap.size l1 I (putL x I) 0 x) (ParC.VC [ParC.EQ (pv p), ParC.EQ (Value.pointer (some ⟨wr.heap.size, 1, none⟩)), ParC.EQ (vU x), ParC.EQ (Value.bool BB), ParC.EQ (pv r), ParC.EQ (Value.pointer (some ⟨wr.heap.size, 1, none⟩)), ParC.EQ (vU x), ParC.EQ (Value.bool BB), ParC.EQ (Value.bool true), ParC.EQ (Value.bool true)]) (by kernel_rfl) (by kernel_rfl) (R2.start HE4.out HB4.out HL4.out HR4.out) ?_ ?_
        · refine ⟨fun L ρ w' hR hL hd hk => ?_, ?_⟩
          · exact Par.val_of_run rfl ⟨hR.other (by decide) (by decide), hk.1⟩
          refine ⟨fun L ρ w' hR hL hd hk => ?_, ?_⟩
          · obtain ⟨k0, -⟩ := hk
            have e0 : ρ (.tmp 8) = .pointer (some ⟨wr.heap.size, 0, none⟩) := k0
            clear k0
            refine Par.val_k fun K hK => ?_
            unfold Par.val
            (go_simp; exact hK _ _ ⟨hR.other (by decide) (by decide), rfl⟩)
          refine ⟨fun L ρ w' hR hL hd hk => ?_, ?_⟩
          · obtain ⟨k0, -⟩ := hk
            have e0 : ρ (.tmp 37) = Value.pointer (some ⟨wr.heap.size, 1, none⟩) := k0
            clear k0
            refine Par.val_k fun K hK => ?_
            unfold Par.val
            have c := (box2 hR.box).2
            (go_simp; exact hK _ _ ⟨hR.other (by decide) (by decide), rfl⟩)
          refine ⟨fun L ρ w' hR hL hd hk => ?_, ?_⟩
          · obtain ⟨k0, k1, k2, -⟩ := hk
            have e0 := k0
            have e1 : ρ (.tmp 36) = pv p := k1
            have e2 : ρ (.tmp 38) = vU x := k2
            clear k0 k1 k2
            refine Par.val_k fun K hK => ?_
            unfold Par.val
            refine Par.val_call Try.func8 (by kernel_rfl) rfl e0 ?_
            simp only [List.map_toArray, List.map_cons, List.map_nil, e1, e2]
            refine (put_b w.heap.size _ p m _ I x (hR.s0 hL).1 (by have := HN.out; omega) hR.ext.size).mono ?_
            rintro e w2 ⟨rfl, l3, L3, F3, b3, -⟩
            exact ⟨_, rfl, hK _ _ ⟨hR.three hL L3 F3 b3, congrArg Value.bool HBB.out⟩⟩
          refine ⟨fun L ρ w' hR hL hd hk => ?_, ?_⟩
          · exact Par.val_of_run rfl ⟨hR.other (by decide) (by decide), hk.1⟩
          refine ⟨fun L ρ w' hR hL hd hk => ?_, ?_⟩
          · obtain ⟨k0, -⟩ := hk
            have e0 : ρ (.tmp 8) = .pointer (some ⟨wr.heap.size, 0, none⟩) := k0
            clear k0
            refine Par.val_k fun K hK => ?_
            unfold Par.val
            (go_simp; exact hK _ _ ⟨hR.other (by decide) (by decide), rfl⟩)
          refine ⟨fun L ρ w' hR hL hd hk => ?_, ?_⟩
          · obtain ⟨k0, -⟩ := hk
            have e0 : ρ (.tmp 41) = Value.pointer (some ⟨wr.heap.size, 1, none⟩) := k0
            clear k0
            refine Par.val_k fun K hK => ?_
            unfold Par.val
            have c := (box2 hR.box).2
            (go_simp; exact hK _ _ ⟨hR.other (by decide) (by decide), rfl⟩)
          refine ⟨fun L ρ w' hR hL hd hk => ?_, ?_⟩
          · obtain ⟨k0, k1, k2, -⟩ := hk
            have e0 := k0
            have e1 : ρ (.tmp 40) = pv r := k1
            have e2 : ρ (.tmp 42) = vU x := k2
            clear k0 k1 k2
            refine Par.val_k fun K hK => ?_
            unfold Par.val
            refine Par.val_call Try.func9 (by kernel_rfl) rfl e0 ?_
            simp only [List.map_toArray, List.map_cons, List.map_nil, e1, e2]
            have hL3 : L 3 = true := (show L 4 = true ∧ L 6 = true ∧ L 3 = true by simpa [Region.binds] using hd).2.2
            obtain ⟨l3, a1, a2⟩ := hR.s1 hL3 hL
            refine (rput_any w.heap.size _ r I x a2 hR.ext.size (by have := HN.out; omega)).mono ?_
            rintro e w2 ⟨rfl, R3, F3⟩
            exact ⟨_, rfl, hK _ _ ⟨hR.seven hL3 hL R3 F3 HBr.out hR.ext.size, congrArg Value.bool HBB.out⟩⟩
          refine ⟨fun L ρ w' hR hL hd hk => ?_, ?_⟩
          · obtain ⟨k0, k1, -⟩ := hk
            have e0 : ρ (.tmp 39) = Value.bool BB := k0
            have e1 : ρ (.tmp 43) = Value.bool BB := k1
            clear k0 k1
            refine Par.val_k fun K hK => ?_
            unfold Par.val
            (go_simp; exact hK _ _ ⟨hR.other (by decide) (by decide), rfl⟩)
          refine ⟨fun L ρ w' hR hL hd hk => ?_, ?_⟩
          · exact Par.val_of_run rfl ⟨hR.other (by decide) (by decide), hk.1⟩
          trivial
        intro a' w5 inv hR
        have q36 : a'.tmps.getD 36 undef = pv p := inv.done 0 _ 36 rfl rfl rfl
        have q37 : a'.tmps.getD 37 undef = Value.pointer (some ⟨wr.heap.size, 1, none⟩) := inv.done 1 _ 37 rfl rfl rfl
        have q38 : a'.tmps.getD 38 undef = vU x := inv.done 2 _ 38 rfl rfl rfl
        have q39 : a'.tmps.getD 39 undef = Value.bool BB := inv.done 3 _ 39 rfl rfl rfl
        have q40 : a'.tmps.getD 40 undef = pv r := inv.done 4 _ 40 rfl rfl rfl
        have q41 : a'.tmps.getD 41 undef = Value.pointer (some ⟨wr.heap.size, 1, none⟩) := inv.done 5 _ 41 rfl rfl rfl
        have q42 : a'.tmps.getD 42 undef = vU x := inv.done 6 _ 42 rfl rfl rfl
        have q43 : a'.tmps.getD 43 undef = Value.bool BB := inv.done 7 _ 43 rfl rfl rfl
        have q44 : a'.tmps.getD 44 undef = Value.bool true := inv.done 8 _ 44 rfl rfl rfl
        have q9 : a'.tmps.getD 9 undef = Value.bool true := inv.done 9 _ 9 rfl rfl rfl
        clear inv
        simp only [List.filterMap_cons, List.filterMap_nil, Par.putAll, Act.put, List.setIfInBounds_toArray, List.set_cons_succ, List.set_cons_zero, q36, q37, q38, q39, q40, q41, q42, q43, q44, q9]
        clear q36 q37 q38 q39 q40 q41 q42 q43 q44 q9
        clear a'
        obtain ⟨l5, L5, R5⟩ := hR.s2 rfl
        have HE5 : Hid (Ext w w5) := hid hR.ext
        have HL5 := hid L5
        have HR5 := hid R5
        clear L5 R5 hR HL4 HR4 HE4 HB4 HBB HL HR HE HN c0 c1
        obtain ⟨J, hJ⟩ : ∃ J, putL x I = J := ⟨_, rfl⟩
        rw [hJ] at HL5 HR5 HN5
        clear hJ
        go_wp2_with fail
        refine (first_b w.heap.size _ p m _ J HL5.out).mono ?_
        rintro e w6 ⟨rfl, E6⟩
        obtain ⟨h0, n0, hf0⟩ : ∃ h0 n0, firstI J = .tuple #[vU h0, .bool n0] := ⟨_, _, rfl⟩
        rw [hf0]
        have HF0 := hid hf0
        have HL6 := hid (HL5.out.ext E6)
        have HR6 := hid (HR5.out.ext E6)
        have HE6 : Hid (Ext w w6) := hid (HE5.out.trans E6)
        clear hf0 E6 HL5 HR5 HE5
        go_wp2_with fail
        refine (rfirst_any w.heap.size _ r J HR6.out).mono ?_
        rintro e w7 ⟨he, rfl⟩
        rw [HF0.out] at he
        subst he
        obtain ⟨rv, hr6, ho6⟩ := HR6.out
        obtain ⟨ro, rc, rfl⟩ := ho6.shape
        have KR := hid (box1 hr6).1
        have HV6 := hid ho6.vec
        have HJJ : Hid ((J == J) = true) := hid (by simp)
        obtain ⟨hb, hhb⟩ : ∃ hb, decide (id ∈ J) = hb := ⟨_, rfl⟩
        have HHB := hid hhb
        clear hr6 ho6 hhb HF0
        go_wp2_with fail
        refine Par.wp_region_par (l := [_, _, _, _, _, _, _, _, _, _, _, _, _, _, _, _, _, _, _, _, _, _, _, _, _, _, _, _, _, _, _, _, _, _, _, _, _, _, _, _, _]) rfl Ext (Par.VL [Par.EQ (Value.bool true), Par.EQ (Value.bool false), Par.EQ (Value.bool false), Par.EQ (vU h0), Par.EQ (vU h0), Par.EQ (Value.bool false), Par.EQ (Value.bool false), Par.EQ (Value.bool false), Par.EQ (Value.bool n0), Par.EQ (Value.bool n0), Par.EQ (Value.bool false), Par.EQ (Value.bool false), Par.EQ (Value.bool false), Par.EQ (pv p), (fun v w' => Vec vU w' v J), Par.EQ (pv r), Par.EQ (pv r), Par.EQ (pv r), Par.EQ (Value.slice ro J.length rc), Par.EQ (Value.bool true), Par.EQ (Value.bool false), Par.EQ (Value.bool false), Par.EQ (Value.bool false), Par.EQ (pv p), Par.EQ (vU id), Par.EQ (Value.bool hb), Par.EQ (pv r), Par.EQ (vU id), Par.EQ (Value.bool hb), Par.EQ (Value.bool false), Par.EQ (Value.bool false), Par.EQ (Value.bool false), Par.EQ (pv p), Par.EQ (Value.int IntKind.i64 (J.length : Nat)), Par.EQ (pv r), Par.EQ (pv r), Par.EQ (pv r), Par.EQ (Value.slice ro J.length rc), Par.EQ (Value.int IntKind.i64 (J.length : Nat)), Par.EQ (Value.bool false), Par.EQ (Value.bool false)]) (by kernel_rfl) Ext.refl (fun _ _ _ h1 h2 => Ext.trans h1 h2) (Ext.draw _) (Par.VL_stab ?_) ?_ ?_
        · simp only [List.forall_mem_cons, List.not_mem_nil, false_implies, implies_true, and_true]
          refine ⟨fun _ _ _ _ h => h, fun _ _ _ _ h => h, fun _ _ _ _ h => h, fun _ _ _ _ h => h, fun _ _ _ _ h => h, fun _ _ _ _ h => h, fun _ _ _ _ h => h, fun _ _ _ _ h => h, fun _ _ _ _ h => h, fun _ _ _ _ h => h, fun _ _ _ _ h => h, fun _ _ _ _ h => h, fun _ _ _ _ h => h, fun _ _ _ _ h => h, fun v a b k h => h.ext k, fun _ _ _ _ h => h, fun _ _ _ _ h => h, fun _ _ _ _ h => h, fun _ _ _ _ h => h, fun _ _ _ _ h => h, fun _ _ _ _ h => h, fun _ _ _ _ h => h, fun _ _ _ _ h => h, fun _ _ _ _ h => h, fun _ _ _ _ h => h, fun _ _ _ _ h => h, fun _ _ _ _ h => h, fun _ _ _ _ h => h, fun _ _ _ _ h => h, fun _ _ _ _ h => h, fun _ _ _ _ h => h, fun _ _ _ _ h => h, fun _ _ _ _ h => h, fun _ _ _ _ h => h, fun _ _ _ _ h => h, fun _ _ _ _ h => h, fun _ _ _ _ h => h, fun _ _ _ _ h => h, fun _ _ _ _ h => h, fun _ _ _ _ h => h, fun _ _ _ _ h => h⟩
        · refine ⟨⟨fun _ _ => trivial, fun ρ w' hX hG hk => ?_⟩, ?_⟩
          · exact Par.val_of_run rfl ⟨Ext.refl _, hk.1⟩
          refine ⟨⟨fun _ _ => trivial, fun ρ w' hX hG hk => ?_⟩, ?_⟩
          · obtain ⟨k0, -⟩ := hk
            have e0 : ρ (.tmp 86) = Value.bool true := k0
            clear k0
            refine Par.val_k fun K hK => ?_
            unfold Par.val
            (go_simp; exact hK _ _ ⟨Ext.refl _, rfl⟩)
          refine ⟨⟨fun _ _ => trivial, fun ρ w' hX hG hk => ?_⟩, ?_⟩
          · exact Par.val_of_run rfl ⟨Ext.refl _, hk.1⟩
          refine ⟨⟨fun _ _ u hu => .inl hu, fun ρ w' hX hG hk => ?_⟩, ?_⟩
          · exact Par.val_of_run rfl ⟨Ext.refl _, hk.1⟩
          refine ⟨⟨fun _ _ u hu => .inl hu, fun ρ w' hX hG hk => ?_⟩, ?_⟩
          · exact Par.val_of_run rfl ⟨Ext.refl _, hk.1⟩
          refine ⟨⟨fun _ _ u hu => .inl hu, fun ρ w' hX hG hk => ?_⟩, ?_⟩
          · obtain ⟨k0, k1, -⟩ := hk
            have e0 : ρ (.tmp 89) = vU h0 := k0
            have e1 : ρ (.tmp 90) = vU h0 := k1
            clear k0 k1
            refine Par.val_k fun K hK => ?_
            unfold Par.val
            (go_simp; exact hK _ _ ⟨Ext.refl _, rfl⟩)
          refine ⟨⟨fun _ _ => trivial, fun ρ w' hX hG hk => ?_⟩, ?_⟩
          · obtain ⟨k0, k1, k2, -⟩ := hk
            have e0 : ρ (.tmp 88) = Value.bool false := k0
            have e1 : ρ (Operand.const (Value.bool true)) = (Value.bool true) := k1
            have e2 : ρ (.tmp 91) = Value.bool false := k2
            clear k0 k1 k2
            refine Par.val_k fun K hK => ?_
            unfold Par.val
            (go_simp; exact hK _ _ ⟨Ext.refl _, rfl⟩)
          refine ⟨⟨fun _ _ => trivial, fun ρ w' hX hG hk => ?_⟩, ?_⟩
          · exact Par.val_of_run rfl ⟨Ext.refl _, hk.1⟩
          refine ⟨⟨fun _ _ u hu => .inl hu, fun ρ w' hX hG hk => ?_⟩, ?_⟩
          · exact Par.val_of_run rfl ⟨Ext.refl _, hk.1⟩
          refine ⟨⟨fun _ _ u hu => .inl hu, fun ρ w' hX hG hk => ?_⟩, ?_⟩
          · exact Par.val_of_run rfl ⟨Ext.refl _, hk.1⟩
          refine ⟨⟨fun _ _ u hu => .inl hu, fun ρ w' hX hG hk => ?_⟩, ?_⟩
          · obtain ⟨k0, k1, -⟩ := hk
            have e0 : ρ (.tmp 94) = Value.bool n0 := k0
            have e1 : ρ (.tmp 95) = Value.bool n0 := k1
            clear k0 k1
            refine Par.val_k fun K hK => ?_
            unfold Par.val
            (go_simp; exact hK _ _ ⟨Ext.refl _, rfl⟩)
          refine ⟨⟨fun _ _ => trivial, fun ρ w' hX hG hk => ?_⟩, ?_⟩
          · obtain ⟨k0, k1, k2, -⟩ := hk
            have e0 : ρ (.tmp 93) = Value.bool false := k0
            have e1 : ρ (Operand.const (Value.bool true)) = (Value.bool true) := k1
            have e2 : ρ (.tmp 96) = Value.bool false := k2
            clear k0 k1 k2
            refine Par.val_k fun K hK => ?_
            unfold Par.val
            (go_simp; exact hK _ _ ⟨Ext.refl _, rfl⟩)
          refine ⟨⟨fun _ _ => trivial, fun ρ w' hX hG hk => ?_⟩, ?_⟩
          · exact Par.val_of_run rfl ⟨Ext.refl _, hk.1⟩
          refine ⟨⟨fun _ _ u hu => .inl hu, fun ρ w' hX hG hk => ?_⟩, ?_⟩
          · exact Par.val_of_run rfl ⟨Ext.refl _, hk.1⟩
          refine ⟨⟨fun _ _ u hu => .inl hu, fun ρ w' hX hG hk => ?_⟩, ?_⟩
          · obtain ⟨k0, k1, -⟩ := hk
            have e0 := k0
            have e1 : ρ (.tmp 99) = pv p := k1
            clear k0 k1
            refine Par.val_k fun K hK => ?_
            unfold Par.val
            refine Par.val_call Try.func17 (by kernel_rfl) rfl e0 ?_
            simp only [List.map_toArray, List.map_cons, List.map_nil, e1]
            refine (all_b w.heap.size _ p m _ J (HL6.out.ext hX) (by have := HN5.out; omega)).mono ?_
            rintro e w2 ⟨r2, rfl, hr, hx2⟩
            exact ⟨_, rfl, hK _ _ ⟨hx2, hr.vec⟩⟩
          refine ⟨⟨fun _ _ u hu => .inl hu, fun ρ w' hX hG hk => ?_⟩, ?_⟩
          · exact Par.val_of_run rfl ⟨Ext.refl _, hk.1⟩
          refine ⟨⟨fun _ _ u hu => .inl hu, fun ρ w' hX hG hk => ?_⟩, ?_⟩
          · obtain ⟨k0, -⟩ := hk
            have e0 : ρ (.tmp 101) = pv r := k0
            clear k0
            refine Par.val_k fun K hK => ?_
            unfold Par.val
            (go_simp; exact hK _ _ ⟨Ext.refl _, rfl⟩)
          refine ⟨⟨fun _ _ u hu => .inl hu, fun ρ w' hX hG hk => ?_⟩, ?_⟩
          · obtain ⟨k0, -⟩ := hk
            have e0 : ρ (.tmp 102) = pv r := k0
            clear k0
            refine Par.val_k fun K hK => ?_
            unfold Par.val
            (go_simp; exact hK _ _ ⟨Ext.refl _, rfl⟩)
          refine ⟨⟨fun _ _ u hu => .inl hu, fun ρ w' hX hG hk => ?_⟩, ?_⟩
          · obtain ⟨k0, -⟩ := hk
            have e0 : ρ (.tmp 103) = pv r := k0
            clear k0
            refine Par.val_k fun K hK => ?_
            unfold Par.val
            (have c := hX.cell KR.out; go_simp; exact hK _ _ ⟨Ext.refl _, rfl⟩)
          refine ⟨⟨fun _ _ u hu => .inl hu, fun ρ w' hX hG hk => ?_⟩, ?_⟩
          · obtain ⟨k0, k1, k2, -⟩ := hk
            have e0 := k0
            have e1 : (fun v w' => Vec vU w' v J) (ρ (.tmp 100)) w' := k1
            have e2 : ρ (.tmp 104) = Value.slice ro J.length rc := k2
            clear k0 k1 k2
            refine Par.val_k fun K hK => ?_
            unfold Par.val
            refine Par.val_call Try.func16 (by kernel_rfl) rfl e0 ?_
            simp only [List.map_toArray, List.map_cons, List.map_nil, e2]
            refine (rsame64_any _ _ J J _ e1 (HV6.out.ext hX)).mono ?_
            rintro e w2 ⟨rfl, h2⟩
            exact ⟨_, rfl, hK _ _ ⟨h2, (congrArg Value.bool HJJ.out)⟩⟩
          refine ⟨⟨fun _ _ u hu => .inl hu, fun ρ w' hX hG hk => ?_⟩, ?_⟩
          · obtain ⟨k0, -⟩ := hk
            have e0 : ρ (.tmp 105) = Value.bool true := k0
            clear k0
            refine Par.val_k fun K hK => ?_
            unfold Par.val
            (go_simp; exact hK _ _ ⟨Ext.refl _, rfl⟩)
          refine ⟨⟨fun _ _ => trivial, fun ρ w' hX hG hk => ?_⟩, ?_⟩
          · obtain ⟨k0, k1, k2, -⟩ := hk
            have e0 : ρ (.tmp 98) = Value.bool false := k0
            have e1 : ρ (Operand.const (Value.bool true)) = (Value.bool true) := k1
            have e2 : ρ (.tmp 106) = Value.bool false := k2
            clear k0 k1 k2
            refine Par.val_k fun K hK => ?_
            unfold Par.val
            (go_simp; exact hK _ _ ⟨Ext.refl _, rfl⟩)
          refine ⟨⟨fun _ _ => trivial, fun ρ w' hX hG hk => ?_⟩, ?_⟩
          · exact Par.val_of_run rfl ⟨Ext.refl _, hk.1⟩
          refine ⟨⟨fun _ _ u hu => .inl hu, fun ρ w' hX hG hk => ?_⟩, ?_⟩
          · exact Par.val_of_run rfl ⟨Ext.refl _, hk.1⟩
          refine ⟨⟨fun _ _ u hu => .inl hu, fun ρ w' hX hG hk => ?_⟩, ?_⟩
          · exact Par.val_of_run rfl ⟨Ext.refl _, hk.1⟩
          refine ⟨⟨fun _ _ u hu => .inl hu, fun ρ w' hX hG hk => ?_⟩, ?_⟩
          · obtain ⟨k0, k1, k2, -⟩ := hk
            have e0 := k0
            have e1 : ρ (.tmp 109) = pv p := k1
            have e2 : ρ (.tmp 110) = vU id := k2
            clear k0 k1 k2
            refine Par.val_k fun K hK => ?_
            unfold Par.val
            refine Par.val_call Try.func18 (by kernel_rfl) rfl e0 ?_
            simp only [List.map_toArray, List.map_cons, List.map_nil, e1, e2]
            refine (has_b w.heap.size _ p m _ J id (HL6.out.ext hX)).mono ?_
            rintro e w2 ⟨rfl, rfl⟩
            exact ⟨_, rfl, hK _ _ ⟨Ext.refl _, (congrArg Value.bool HHB.out)⟩⟩
          refine ⟨⟨fun _ _ u hu => .inl hu, fun ρ w' hX hG hk => ?_⟩, ?_⟩
          · exact Par.val_of_run rfl ⟨Ext.refl _, hk.1⟩
          refine ⟨⟨fun _ _ u hu => .inl hu, fun ρ w' hX hG hk => ?_⟩, ?_⟩
          · exact Par.val_of_run rfl ⟨Ext.refl _, hk.1⟩
          refine ⟨⟨fun _ _ u hu => .inl hu, fun ρ w' hX hG hk => ?_⟩, ?_⟩
          · obtain ⟨k0, k1, k2, -⟩ := hk
            have e0 := k0
            have e1 : ρ (.tmp 112) = pv r := k1
            have e2 : ρ (.tmp 113) = vU id := k2
            clear k0 k1 k2
            refine Par.val_k fun K hK => ?_
            unfold Par.val
            refine Par.val_call Try.func19 (by kernel_rfl) rfl e0 ?_
            simp only [List.map_toArray, List.map_cons, List.map_nil, e1, e2]
            refine (rhas_any w.heap.size _ r J id (HR6.out.ext hX)).mono ?_
            rintro e w2 ⟨rfl, rfl⟩
            exact ⟨_, rfl, hK _ _ ⟨Ext.refl _, (congrArg Value.bool HHB.out)⟩⟩
          refine ⟨⟨fun _ _ u hu => .inl hu, fun ρ w' hX hG hk => ?_⟩, ?_⟩
          · obtain ⟨k0, k1, -⟩ := hk
            have e0 : ρ (.tmp 111) = Value.bool hb := k0
            have e1 : ρ (.tmp 114) = Value.bool hb := k1
            clear k0 k1
            refine Par.val_k fun K hK => ?_
            unfold Par.val
            (go_simp; exact hK _ _ ⟨Ext.refl _, rfl⟩)
          refine ⟨⟨fun _ _ => trivial, fun ρ w' hX hG hk => ?_⟩, ?_⟩
          · obtain ⟨k0, k1, k2, -⟩ := hk
            have e0 : ρ (.tmp 108) = Value.bool false := k0
            have e1 : ρ (Operand.const (Value.bool true)) = (Value.bool true) := k1
            have e2 : ρ (.tmp 115) = Value.bool false := k2
            clear k0 k1 k2
            refine Par.val_k fun K hK => ?_
            unfold Par.val
            (go_simp; exact hK _ _ ⟨Ext.refl _, rfl⟩)
          refine ⟨⟨fun _ _ => trivial, fun ρ w' hX hG hk => ?_⟩, ?_⟩
          · exact Par.val_of_run rfl ⟨Ext.refl _, hk.1⟩
          refine ⟨⟨fun _ _ u hu => .inl hu, fun ρ w' hX hG hk => ?_⟩, ?_⟩
          · exact Par.val_of_run rfl ⟨Ext.refl _, hk.1⟩
          refine ⟨⟨fun _ _ u hu => .inl hu, fun ρ w' hX hG hk => ?_⟩, ?_⟩
          · obtain ⟨k0, k1, -⟩ := hk
            have e0 := k0
            have e1 : ρ (.tmp 118) = pv p := k1
            clear k0 k1
            refine Par.val_k fun K hK => ?_
            unfold Par.val
            refine Par.val_call Try.func20 (by kernel_rfl) rfl e0 ?_
            simp only [List.map_toArray, List.map_cons, List.map_nil, e1]
            refine (len_b w.heap.size _ p m _ J (HL6.out.ext hX)).mono ?_
            rintro e w2 ⟨rfl, rfl⟩
            exact ⟨_, rfl, hK _ _ ⟨Ext.refl _, rfl⟩⟩
          refine ⟨⟨fun _ _ u hu => .inl hu, fun ρ w' hX hG hk => ?_⟩, ?_⟩
          · exact Par.val_of_run rfl ⟨Ext.refl _, hk.1⟩
          refine ⟨⟨fun _ _ u hu => .inl hu, fun ρ w' hX hG hk => ?_⟩, ?_⟩
          · obtain ⟨k0, -⟩ := hk
            have e0 : ρ (.tmp 120) = pv r := k0
            clear k0
            refine Par.val_k fun K hK => ?_
            unfold Par.val
            (go_simp; exact hK _ _ ⟨Ext.refl _, rfl⟩)
          refine ⟨⟨fun _ _ u hu => .inl hu, fun ρ w' hX hG hk => ?_⟩, ?_⟩
          · obtain ⟨k0, -⟩ := hk
            have e0 : ρ (.tmp 121) = pv r := k0
            clear k0
            refine Par.val_k fun K hK => ?_
            unfold Par.val
            (go_simp; exact hK _ _ ⟨Ext.refl _, rfl⟩)
          refine ⟨⟨fun _ _ u hu => .inl hu, fun ρ w' hX hG hk => ?_⟩, ?_⟩
          · obtain ⟨k0, -⟩ := hk
            have e0 : ρ (.tmp 122) = pv r := k0
            clear k0
            refine Par.val_k fun K hK => ?_
            unfold Par.val
            (have c := hX.cell KR.out; go_simp; exact hK _ _ ⟨Ext.refl _, rfl⟩)
          refine ⟨⟨fun _ _ u hu => .inl hu, fun ρ w' hX hG hk => ?_⟩, ?_⟩
          · obtain ⟨k0, -⟩ := hk
            have e0 : ρ (.tmp 123) = Value.slice ro J.length rc := k0
            clear k0
            refine Par.val_k fun K hK => ?_
            unfold Par.val
            (go_simp; exact hK _ _ ⟨Ext.refl _, rfl⟩)
          refine ⟨⟨fun _ _ u hu => .inl hu, fun ρ w' hX hG hk => ?_⟩, ?_⟩
          · obtain ⟨k0, k1, -⟩ := hk
            have e0 : ρ (.tmp 119) = Value.int IntKind.i64 (J.length : Nat) := k0
            have e1 : ρ (.tmp 124) = Value.int IntKind.i64 (J.length : Nat) := k1
            clear k0 k1
            refine Par.val_k fun K hK => ?_
            unfold Par.val
            (go_simp; exact hK _ _ ⟨Ext.refl _, rfl⟩)
          refine ⟨⟨fun _ _ => trivial, fun ρ w' hX hG hk => ?_⟩, ?_⟩
          · obtain ⟨k0, k1, k2, -⟩ := hk
            have e0 : ρ (.tmp 117) = Value.bool false := k0
            have e1 : ρ (Operand.const (Value.bool true)) = (Value.bool true) := k1
            have e2 : ρ (.tmp 125) = Value.bool false := k2
            clear k0 k1 k2
            refine Par.val_k fun K hK => ?_
            unfold Par.val
            (go_simp; exact hK _ _ ⟨Ext.refl _, rfl⟩)
          trivial
        intro a' w' inv
        have hX := inv.ext
        have q86 : a'.tmps.getD 86 undef = Value.bool true := inv.done 0 _ 86 rfl rfl rfl
        have q87 : a'.tmps.getD 87 undef = Value.bool false := inv.done 1 _ 87 rfl rfl rfl
        have q88 : a'.tmps.getD 88 undef = Value.bool false := inv.done 2 _ 88 rfl rfl rfl
        have q89 : a'.tmps.getD 89 undef = vU h0 := inv.done 3 _ 89 rfl rfl rfl
        have q90 : a'.tmps.getD 90 undef = vU h0 := inv.done 4 _ 90 rfl rfl rfl
        have q91 : a'.tmps.getD 91 undef = Value.bool false := inv.done 5 _ 91 rfl rfl rfl
        have q92 : a'.tmps.getD 92 undef = Value.bool false := inv.done 6 _ 92 rfl rfl rfl
        have q93 : a'.tmps.getD 93 undef = Value.bool false := inv.done 7 _ 93 rfl rfl rfl
        have q94 : a'.tmps.getD 94 undef = Value.bool n0 := inv.done 8 _ 94 rfl rfl rfl
        have q95 : a'.tmps.getD 95 undef = Value.bool n0 := inv.done 9 _ 95 rfl rfl rfl
        have q96 : a'.tmps.getD 96 undef = Value.bool false := inv.done 10 _ 96 rfl rfl rfl
        have q97 : a'.tmps.getD 97 undef = Value.bool false := inv.done 11 _ 97 rfl rfl rfl
        have q98 : a'.tmps.getD 98 undef = Value.bool false := inv.done 12 _ 98 rfl rfl rfl
        have q99 : a'.tmps.getD 99 undef = pv p := inv.done 13 _ 99 rfl rfl rfl
        have q100 : (fun v w' => Vec vU w' v J) (a'.tmps.getD 100 undef) w' := inv.done 14 _ 100 rfl rfl rfl
        have q101 : a'.tmps.getD 101 undef = pv r := inv.done 15 _ 101 rfl rfl rfl
        have q102 : a'.tmps.getD 102 undef = pv r := inv.done 16 _ 102 rfl rfl rfl
        have q103 : a'.tmps.getD 103 undef = pv r := inv.done 17 _ 103 rfl rfl rfl
        have q104 : a'.tmps.getD 104 undef = Value.slice ro J.length rc := inv.done 18 _ 104 rfl rfl rfl
        have q105 : a'.tmps.getD 105 undef = Value.bool true := inv.done 19 _ 105 rfl rfl rfl
        have q106 : a'.tmps.getD 106 undef = Value.bool false := inv.done 20 _ 106 rfl rfl rfl
        have q107 : a'.tmps.getD 107 undef = Value.bool false := inv.done 21 _ 107 rfl rfl rfl
        have q108 : a'.tmps.getD 108 undef = Value.bool false := inv.done 22 _ 108 rfl rfl rfl
        have q109 : a'.tmps.getD 109 undef = pv p := inv.done 23 _ 109 rfl rfl rfl
        have q110 : a'.tmps.getD 110 undef = vU id := inv.done 24 _ 110 rfl rfl rfl
        have q111 : a'.tmps.getD 111 undef = Value.bool hb := inv.done 25 _ 111 rfl rfl rfl
        have q112 : a'.tmps.getD 112 undef = pv r := inv.done 26 _ 112 rfl rfl rfl
        have q113 : a'.tmps.getD 113 undef = vU id := inv.done 27 _ 113 rfl rfl rfl
        have q114 : a'.tmps.getD 114 undef = Value.bool hb := inv.done 28 _ 114 rfl rfl rfl
        have q115 : a'.tmps.getD 115 undef = Value.bool false := inv.done 29 _ 115 rfl rfl rfl
        have q116 : a'.tmps.getD 116 undef = Value.bool false := inv.done 30 _ 116 rfl rfl rfl
        have q117 : a'.tmps.getD 117 undef = Value.bool false := inv.done 31 _ 117 rfl rfl rfl
        have q118 : a'.tmps.getD 118 undef = pv p := inv.done 32 _ 118 rfl rfl rfl
        have q119 : a'.tmps.getD 119 undef = Value.int IntKind.i64 (J.length : Nat) := inv.done 33 _ 119 rfl rfl rfl
        have q120 : a'.tmps.getD 120 undef = pv r := inv.done 34 _ 120 rfl rfl rfl
        have q121 : a'.tmps.getD 121 undef = pv r := inv.done 35 _ 121 rfl rfl rfl
        have q122 : a'.tmps.getD 122 undef = pv r := inv.done 36 _ 122 rfl rfl rfl
        have q123 : a'.tmps.getD 123 undef = Value.slice ro J.length rc := inv.done 37 _ 123 rfl rfl rfl
        have q124 : a'.tmps.getD 124 undef = Value.int IntKind.i64 (J.length : Nat) := inv.done 38 _ 124 rfl rfl rfl
        have q125 : a'.tmps.getD 125 undef = Value.bool false := inv.done 39 _ 125 rfl rfl rfl
        have q126 : a'.tmps.getD 126 undef = Value.bool false := inv.done 40 _ 126 rfl rfl rfl
        clear inv
        simp only [List.filterMap_cons, List.filterMap_nil, Par.putAll, Act.put, List.setIfInBounds_toArray, List.set_cons_succ, List.set_cons_zero, q86, q87, q88, q89, q90, q91, q92, q93, q94, q95, q96, q97, q98, q99, q101, q102, q103, q104, q105, q106, q107, q108, q109, q110, q111, q112, q113, q114, q115, q116, q117, q118, q119, q120, q121, q122, q123, q124, q125, q126]
        clear q86 q87 q88 q89 q90 q91 q92 q93 q94 q95 q96 q97 q98 q99 q101 q102 q103 q104 q105 q106 q107 q108 q109 q110 q111 q112 q113 q114 q115 q116 q117 q118 q119 q120 q121 q122 q123 q124 q125 q126
        generalize a'.tmps.getD 100 undef = u100 at *
        clear a'
        have HL7 := hid (HL6.out.ext hX)
        have HR7 := hid (HR6.out.ext hX)
        have HE7 : Hid (Ext w _) := hid (HE6.out.trans hX)
        clear hX HL6 HR6 HE6 KR HV6 HJJ HHB
        go_wp2
        go_roundw
        case rel => exact ⟨k + 1, l5, J, by omega, by go_num, HN5, HL7, HR7, HE7⟩
        case measure => simp [intOf]; omega
      have hd0' : (d == (0 : Int)) = false := by simp [hd0]
      clear hd0
      by_cases hd1 : d = 1
      · subst hd1
        go_wp2_with fail
        refine (take_b w.heap.size _ p m _ I HL4.out HE4.out.size).mono ?_
        rintro e w3 ⟨rfl, l5, L5, F5, b5, -⟩
        obtain ⟨h0, n0, hf0⟩ : ∃ h0 n0, firstI I = .tuple #[vU h0, .bool n0] := ⟨_, _, rfl⟩
        rw [hf0]
        have HF0 := hid hf0
        have HR5 := hid (HR4.out.lane HL4.out.ln F5)
        have HL5 := hid L5
        have HE5 : Hid (Ext w w3) := hid (Below.trans HE4.out b5)
        have HND := hid HL4.out.nd
        clear hf0 L5 F5 b5 HL4 HR4 HE4 HB4
        go_wp2_with fail
        refine (rtake_any w.heap.size _ r I HR5.out HE5.out.size (by have := HN.out; omega) HND.out).mono ?_
        rintro e w5 ⟨he, R6, F6⟩
        rw [HF0.out] at he
        subst he
        have HL6 := hid (HL5.out.ref HR5.out F6)
        have HE6 : Hid (Ext w w5) := hid (Below.trans HE5.out (fr_one F6 HBr.out HE5.out.size))
        have HR6 := hid R6
        have HN5 : Hid (I.tail.length ≤ k + 1) := hid (by have := tail_len I; have := HN.out; omega)
        clear R6 F6 HL5 HR5 HE5 HL HR HE HN c0 c1
        obtain ⟨J, hJ⟩ : ∃ J, I.tail = J := ⟨_, rfl⟩
        rw [hJ] at HL6 HR6 HN5
        clear hJ
        have HL5 := HL6
        have HR5 := HR6
        have HE5 := HE6
        clear HL6 HR6 HE6
        go_wp2_with fail
        refine (first_b w.heap.size _ p m _ J HL5.out).mono ?_
        rintro e w6 ⟨rfl, E6⟩
        obtain ⟨h0, n0, hf0⟩ : ∃ h0 n0, firstI J = .tuple #[vU h0, .bool n0] := ⟨_, _, rfl⟩
        rw [hf0]
        have HF0 := hid hf0
        have HL6 := hid (HL5.out.ext E6)
        have HR6 := hid (HR5.out.ext E6)
        have HE6 : Hid (Ext w w6) := hid (HE5.out.trans E6)
        clear hf0 E6 HL5 HR5 HE5
        go_wp2_with fail
        refine (rfirst_any w.heap.size _ r J HR6.out).mono ?_
        rintro e w7 ⟨he, rfl⟩
        rw [HF0.out] at he
        subst he
        obtain ⟨rv, hr6, ho6⟩ := HR6.out
        obtain ⟨ro, rc, rfl⟩ := ho6.shape
        have KR := hid (box1 hr6).1
        have HV6 := hid ho6.vec
        have HJJ : Hid ((J == J) = true) := hid (by simp)
        obtain ⟨hb, hhb⟩ : ∃ hb, decide (id ∈ J) = hb := ⟨_, rfl⟩
        have HHB := hid hhb
        clear hr6 ho6 hhb HF0
        go_wp2_with fail
        refine Par.wp_region_par (l := [_, _, _, _, _, _, _, _, _, _, _, _, _, _, _, _, _, _, _, _, _, _, _, _, _, _, _, _, _, _, _, _, _, _, _, _, _, _, _, _, _]) rfl Ext (Par.VL [Par.EQ (Value.bool true), Par.EQ (Value.bool false), Par.EQ (Value.bool false), Par.EQ (vU h0), Par.EQ (vU h0), Par.EQ (Value.bool false), Par.EQ (Value.bool false), Par.EQ (Value.bool false), Par.EQ (Value.bool n0), Par.EQ (Value.bool n0), Par.EQ (Value.bool false), Par.EQ (Value.bool false), Par.EQ (Value.bool false), Par.EQ (pv p), (fun v w' => Vec vU w' v J), Par.EQ (pv r), Par.EQ (pv r), Par.EQ (pv r), Par.EQ (Value.slice ro J.length rc), Par.EQ (Value.bool true), Par.EQ (Value.bool false), Par.EQ (Value.bool false), Par.EQ (Value.bool false), Par.EQ (pv p), Par.EQ (vU id), Par.EQ (Value.bool hb), Par.EQ (pv r), Par.EQ (vU id), Par.EQ (Value.bool hb), Par.EQ (Value.bool false), Par.EQ (Value.bool false), Par.EQ (Value.bool false), Par.EQ (pv p), Par.EQ (Value.int IntKind.i64 (J.length : Nat)), Par.EQ (pv r), Par.EQ (pv r), Par.EQ (pv r), Par.EQ (Value.slice ro J.length rc), Par.EQ (Value.int IntKind.i64 (J.length : Nat)), Par.EQ (Value.bool false), Par.EQ (Value.bool false)]) (by kernel_rfl) Ext.refl (fun _ _ _ h1 h2 => Ext.trans h1 h2) (Ext.draw _) (Par.VL_stab ?_) ?_ ?_
        · simp only [List.forall_mem_cons, List.not_mem_nil, false_implies, implies_true, and_true]
          refine ⟨fun _ _ _ _ h => h, fun _ _ _ _ h => h, fun _ _ _ _ h => h, fun _ _ _ _ h => h, fun _ _ _ _ h => h, fun _ _ _ _ h => h, fun _ _ _ _ h => h, fun _ _ _ _ h => h, fun _ _ _ _ h => h, fun _ _ _ _ h => h, fun _ _ _ _ h => h, fun _ _ _ _ h => h, fun _ _ _ _ h => h, fun _ _ _ _ h => h, fun v a b k h => h.ext k, fun _ _ _ _ h => h, fun _ _ _ _ h => h, fun _ _ _ _ h => h, fun _ _ _ _ h => h, fun _ _ _ _ h => h, fun _ _ _ _ h => h, fun _ _ _ _ h => h, fun _ _ _ _ h => h, fun _ _ _ _ h => h, fun _ _ _ _ h => h, fun _ _ _ _ h => h, fun _ _ _ _ h => h, fun _ _ _ _ h => h, fun _ _ _ _ h => h, fun _ _ _ _ h => h, fun _ _ _ _ h => h, fun _ _ _ _ h => h, fun _ _ _ _ h => h, fun _ _ _ _ h => h, fun _ _ _ _ h => h, fun _ _ _ _ h => h, fun _ _ _ _ h => h, fun _ _ _ _ h => h, fun _ _ _ _ h => h, fun _ _ _ _ h => h, fun _ _ _ _ h => h⟩
        · refine ⟨⟨fun _ _ => trivial, fun ρ w' hX hG hk => ?_⟩, ?_⟩
          · exact Par.val_of_run rfl ⟨Ext.refl _, hk.1⟩
          refine ⟨⟨fun _ _ => trivial, fun ρ w' hX hG hk => ?_⟩, ?_⟩
          · obtain ⟨k0, -⟩ := hk
            have e0 : ρ (.tmp 86) = Value.bool true := k0
            clear k0
            refine Par.val_k fun K hK => ?_
            unfold Par.val
            (go_simp; exact hK _ _ ⟨Ext.refl _, rfl⟩)
          refine ⟨⟨fun _ _ => trivial, fun ρ w' hX hG hk => ?_⟩, ?_⟩
          · exact Par.val_of_run rfl ⟨Ext.refl _, hk.1⟩
          refine ⟨⟨fun _ _ u hu => .inl hu, fun ρ w' hX hG hk => ?_⟩, ?_⟩
          · exact Par.val_of_run rfl ⟨Ext.refl _, hk.1⟩
          refine ⟨⟨fun _ _ u hu => .inl hu, fun ρ w' hX hG hk => ?_⟩, ?_⟩
          · exact Par.val_of_run rfl ⟨Ext.refl _, hk.1⟩
          refine ⟨⟨fun _ _ u hu => .inl hu, fun ρ w' hX hG hk => ?_⟩, ?_⟩
          · obtain ⟨k0, k1, -⟩ := hk
            have e0 : ρ (.tmp 89) = vU h0 := k0
            have e1 : ρ (.tmp 90) = vU h0 := k1
            clear k0 k1
            refine Par.val_k fun K hK => ?_
            unfold Par.val
            (go_simp; exact hK _ _ ⟨Ext.refl _, rfl⟩)
          refine ⟨⟨fun _ _ => trivial, fun ρ w' hX hG hk => ?_⟩, ?_⟩
          · obtain ⟨k0, k1, k2, -⟩ := hk
            have e0 : ρ (.tmp 88) = Value.bool false := k0
            have e1 : ρ (Operand.const (Value.bool true)) = (Value.bool true) := k1
            have e2 : ρ (.tmp 91) = Value.bool false := k2
            clear k0 k1 k2
            refine Par.val_k fun K hK => ?_
            unfold Par.val
            (go_simp; exact hK _ _ ⟨Ext.refl _, rfl⟩)
          refine ⟨⟨fun _ _ => trivial, fun ρ w' hX hG hk => ?_⟩, ?_⟩
          · exact Par.val_of_run rfl ⟨Ext.refl _, hk.1⟩
          refine ⟨⟨fun _ _ u hu => .inl hu, fun ρ w' hX hG hk => ?_⟩, ?_⟩
          · exact Par.val_of_run rfl ⟨Ext.refl _, hk.1⟩
          refine ⟨⟨fun _ _ u hu => .inl hu, fun ρ w' hX hG hk => ?_⟩, ?_⟩
          · exact Par.val_of_run rfl ⟨Ext.refl _, hk.1⟩
          refine ⟨⟨fun _ _ u hu => .inl hu, fun ρ w' hX hG hk => ?_⟩, ?_⟩
          · obtain ⟨k0, k1, -⟩ := hk
            have e0 : ρ (.tmp 94) = Value.bool n0 := k0
            have e1 : ρ (.tmp 95) = Value.bool n0 := k1
            clear k0 k1
            refine Par.val_k fun K hK => ?_
            unfold Par.val
            (go_simp; exact hK _ _ ⟨Ext.refl _, rfl⟩)
          refine ⟨⟨fun _ _ => trivial, fun ρ w' hX hG hk => ?_⟩, ?_⟩
          · obtain ⟨k0, k1, k2, -⟩ := hk
            have e0 : ρ (.tmp 93) = Value.bool false := k0
            have e1 : ρ (Operand.const (Value.bool true)) = (Value.bool true) := k1
            have e2 : ρ (.tmp 96) = Value.bool false := k2
            clear k0 k1 k2
            refine Par.val_k fun K hK => ?_
            unfold Par.val
            (go_simp; exact hK _ _ ⟨Ext.refl _, rfl⟩)
          refine ⟨⟨fun _ _ => trivial, fun ρ w' hX hG hk => ?_⟩, ?_⟩
          · exact Par.val_of_run rfl ⟨Ext.refl _, hk.1⟩
          refine ⟨⟨fun _ _ u hu => .inl hu, fun ρ w' hX hG hk => ?_⟩, ?_⟩
          · exact Par.val_of_run rfl ⟨Ext.refl _, hk.1⟩
          refine ⟨⟨fun _ _ u hu => .inl hu, fun ρ w' hX hG hk => ?_⟩, ?_⟩
          · obtain ⟨k0, k1, -⟩ := hk
            have e0 := k0
            have e1 : ρ (.tmp 99) = pv p := k1
            clear k0 k1
            refine Par.val_k fun K hK => ?_
            unfold Par.val
            refine Par.val_call Try.func17 (by kernel_rfl) rfl e0 ?_
            simp only [List.map_toArray, List.map_cons, List.map_nil, e1]
            refine (all_b w.heap.size _ p m _ J (HL6.out.ext hX) (by have := HN5.out; omega)).mono ?_
            rintro e w2 ⟨r2, rfl, hr, hx2⟩
            exact ⟨_, rfl, hK _ _ ⟨hx2, hr.vec⟩⟩
          refine ⟨⟨fun _ _ u hu => .inl hu, fun ρ w' hX hG hk => ?_⟩, ?_⟩
          · exact Par.val_of_run rfl ⟨Ext.refl _, hk.1⟩
          refine ⟨⟨fun _ _ u hu => .inl hu, fun ρ w' hX hG hk => ?_⟩, ?_⟩
          · obtain ⟨k0, -⟩ := hk
            have e0 : ρ (.tmp 101) = pv r := k0
            clear k0
            refine Par.val_k fun K hK => ?_
            unfold Par.val
            (go_simp; exact hK _ _ ⟨Ext.refl _, rfl⟩)
          refine ⟨⟨fun _ _ u hu => .inl hu, fun ρ w' hX hG hk => ?_⟩, ?_⟩
          · obtain ⟨k0, -⟩ := hk
            have e0 : ρ (.tmp 102) = pv r := k0
            clear k0
            refine Par.val_k fun K hK => ?_
            unfold Par.val
            (go_simp; exact hK _ _ ⟨Ext.refl _, rfl⟩)
          refine ⟨⟨fun _ _ u hu => .inl hu, fun ρ w' hX hG hk => ?_⟩, ?_⟩
          · obtain ⟨k0, -⟩ := hk
            have e0 : ρ (.tmp 103) = pv r := k0
            clear k0
            refine Par.val_k fun K hK => ?_
            unfold Par.val
            (have c := hX.cell KR.out; go_simp; exact hK _ _ ⟨Ext.refl _, rfl⟩)
          refine ⟨⟨fun _ _ u hu => .inl hu, fun ρ w' hX hG hk => ?_⟩, ?_⟩
          · obtain ⟨k0, k1, k2, -⟩ := hk
            have e0 := k0
            have e1 : (fun v w' => Vec vU w' v J) (ρ (.tmp 100)) w' := k1
            have e2 : ρ (.tmp 104) = Value.slice ro J.length rc := k2
            clear k0 k1 k2
            refine Par.val_k fun K hK => ?_
            unfold Par.val
            refine Par.val_call Try.func16 (by kernel_rfl) rfl e0 ?_
            simp only [List.map_toArray, List.map_cons, List.map_nil, e2]
            refine (rsame64_any _ _ J J _ e1 (HV6.out.ext hX)).mono ?_
            rintro e w2 ⟨rfl, h2⟩
            exact ⟨_, rfl, hK _ _ ⟨h2, (congrArg Value.bool HJJ.out)⟩⟩
          refine ⟨⟨fun _ _ u hu => .inl hu, fun ρ w' hX hG hk => ?_⟩, ?_⟩
          · obtain ⟨k0, -⟩ := hk
            have e0 : ρ (.tmp 105) = Value.bool true := k0
            clear k0
            refine Par.val_k fun K hK => ?_
            unfold Par.val
            (go_simp; exact hK _ _ ⟨Ext.refl _, rfl⟩)
          refine ⟨⟨fun _ _ => trivial, fun ρ w' hX hG hk => ?_⟩, ?_⟩
          · obtain ⟨k0, k1, k2, -⟩ := hk
            have e0 : ρ (.tmp 98) = Value.bool false := k0
            have e1 : ρ (Operand.const (Value.bool true)) = (Value.bool true) := k1
            have e2 : ρ (.tmp 106) = Value.bool false := k2
            clear k0 k1 k2
            refine Par.val_k fun K hK => ?_
            unfold Par.val
            (go_simp; exact hK _ _ ⟨Ext.refl _, rfl⟩)
          refine ⟨⟨fun _ _ => trivial, fun ρ w' hX hG hk => ?_⟩, ?_⟩
          · exact Par.val_of_run rfl ⟨Ext.refl _, hk.1⟩
          refine ⟨⟨fun _ _ u hu => .inl hu, fun ρ w' hX hG hk => ?_⟩, ?_⟩
          · exact Par.val_of_run rfl ⟨Ext.refl _, hk.1⟩
          refine ⟨⟨fun _ _ u hu => .inl hu, fun ρ w' hX hG hk => ?_⟩, ?_⟩
          · exact Par.val_of_run rfl ⟨Ext.refl _, hk.1⟩
          refine ⟨⟨fun _ _ u hu => .inl hu, fun ρ w' hX hG hk => ?_⟩, ?_⟩
          · obtain ⟨k0, k1, k2, -⟩ := hk
            have e0 := k0
            have e1 : ρ (.tmp 109) = pv p := k1
            have e2 : ρ (.tmp 110) = vU id := k2
            clear k0 k1 k2
            refine Par.val_k fun K hK => ?_
            unfold Par.val
            refine Par.val_call Try.func18 (by kernel_rfl) rfl e0 ?_
            simp only [List.map_toArray, List.map_cons, List.map_nil, e1, e2]
            refine (has_b w.heap.size _ p m _ J id (HL6.out.ext hX)).mono ?_
            rintro e w2 ⟨rfl, rfl⟩
            exact ⟨_, rfl, hK _ _ ⟨Ext.refl _, (congrArg Value.bool HHB.out)⟩⟩
          refine ⟨⟨fun _ _ u hu => .inl hu, fun ρ w' hX hG hk => ?_⟩, ?_⟩
          · exact Par.val_of_run rfl ⟨Ext.refl _, hk.1⟩
          refine ⟨⟨fun _ _ u hu => .inl hu, fun ρ w' hX hG hk => ?_⟩, ?_⟩
          · exact Par.val_of_run rfl ⟨Ext.refl _, hk.1⟩
          refine ⟨⟨fun _ _ u hu => .inl hu, fun ρ w' hX hG hk => ?_⟩, ?_⟩
          · obtain ⟨k0, k1, k2, -⟩ := hk
            have e0 := k0
            have e1 : ρ (.tmp 112) = pv r := k1
            have e2 : ρ (.tmp 113) = vU id := k2
            clear k0 k1 k2
            refine Par.val_k fun K hK => ?_
            unfold Par.val
            refine Par.val_call Try.func19 (by kernel_rfl) rfl e0 ?_
            simp only [List.map_toArray, List.map_cons, List.map_nil, e1, e2]
            refine (rhas_any w.heap.size _ r J id (HR6.out.ext hX)).mono ?_
            rintro e w2 ⟨rfl, rfl⟩
            exact ⟨_, rfl, hK _ _ ⟨Ext.refl _, (congrArg Value.bool HHB.out)⟩⟩
          refine ⟨⟨fun _ _ u hu => .inl hu, fun ρ w' hX hG hk => ?_⟩, ?_⟩
          · obtain ⟨k0, k1, -⟩ := hk
            have e0 : ρ (.tmp 111) = Value.bool hb := k0
            have e1 : ρ (.tmp 114) = Value.bool hb := k1
            clear k0 k1
            refine Par.val_k fun K hK => ?_
            unfold Par.val
            (go_simp; exact hK _ _ ⟨Ext.refl _, rfl⟩)
          refine ⟨⟨fun _ _ => trivial, fun ρ w' hX hG hk => ?_⟩, ?_⟩
          · obtain ⟨k0, k1, k2, -⟩ := hk
            have e0 : ρ (.tmp 108) = Value.bool false := k0
            have e1 : ρ (Operand.const (Value.bool true)) = (Value.bool true) := k1
            have e2 : ρ (.tmp 115) = Value.bool false := k2
            clear k0 k1 k2
            refine Par.val_k fun K hK => ?_
            unfold Par.val
            (go_simp; exact hK _ _ ⟨Ext.refl _, rfl⟩)
          refine ⟨⟨fun _ _ => trivial, fun ρ w' hX hG hk => ?_⟩, ?_⟩
          · exact Par.val_of_run rfl ⟨Ext.refl _, hk.1⟩
          refine ⟨⟨fun _ _ u hu => .inl hu, fun ρ w' hX hG hk => ?_⟩, ?_⟩
          · exact Par.val_of_run rfl ⟨Ext.refl _, hk.1⟩
          refine ⟨⟨fun _ _ u hu => .inl hu, fun ρ w' hX hG hk => ?_⟩, ?_⟩
          · obtain ⟨k0, k1, -⟩ := hk
            have e0 := k0
            have e1 : ρ (.tmp 118) = pv p := k1
            clear k0 k1
            refine Par.val_k fun K hK => ?_
            unfold Par.val
            refine Par.val_call Try.func20 (by kernel_rfl) rfl e0 ?_
            simp only [List.map_toArray, List.map_cons, List.map_nil, e1]
            refine (len_b w.heap.size _ p m _ J (HL6.out.ext hX)).mono ?_
            rintro e w2 ⟨rfl, rfl⟩
            exact ⟨_, rfl, hK _ _ ⟨Ext.refl _, rfl⟩⟩
          refine ⟨⟨fun _ _ u hu => .inl hu, fun ρ w' hX hG hk => ?_⟩, ?_⟩
          · exact Par.val_of_run rfl ⟨Ext.refl _, hk.1⟩
          refine ⟨⟨fun _ _ u hu => .inl hu, fun ρ w' hX hG hk => ?_⟩, ?_⟩
          · obtain ⟨k0, -⟩ := hk
            have e0 : ρ (.tmp 120) = pv r := k0
            clear k0
            refine Par.val_k fun K hK => ?_
            unfold Par.val
            (go_simp; exact hK _ _ ⟨Ext.refl _, rfl⟩)
          refine ⟨⟨fun _ _ u hu => .inl hu, fun ρ w' hX hG hk => ?_⟩, ?_⟩
          · obtain ⟨k0, -⟩ := hk
            have e0 : ρ (.tmp 121) = pv r := k0
            clear k0
            refine Par.val_k fun K hK => ?_
            unfold Par.val
            (go_simp; exact hK _ _ ⟨Ext.refl _, rfl⟩)
          refine ⟨⟨fun _ _ u hu => .inl hu, fun ρ w' hX hG hk => ?_⟩, ?_⟩
          · obtain ⟨k0, -⟩ := hk
            have e0 : ρ (.tmp 122) = pv r := k0
            clear k0
            refine Par.val_k fun K hK => ?_
            unfold Par.val
            (have c := hX.cell KR.out; go_simp; exact hK _ _ ⟨Ext.refl _, rfl⟩)
          refine ⟨⟨fun _ _ u hu => .inl hu, fun ρ w' hX hG hk => ?_⟩, ?_⟩
          · obtain ⟨k0, -⟩ := hk
            have e0 : ρ (.tmp 123) = Value.slice ro J.length rc := k0
            clear k0
            refine Par.val_k fun K hK => ?_
            unfold Par.val
            (go_simp; exact hK _ _ ⟨Ext.refl _, rfl⟩)
          refine ⟨⟨fun _ _ u hu => .inl hu, fun ρ w' hX hG hk => ?_⟩, ?_⟩
          · obtain ⟨k0, k1, -⟩ := hk
            have e0 : ρ (.tmp 119) = Value.int IntKind.i64 (J.length : Nat) := k0
            have e1 : ρ (.tmp 124) = Value.int IntKind.i64 (J.length : Nat) := k1
            clear k0 k1
            refine Par.val_k fun K hK => ?_
            unfold Par.val
            (go_simp; exact hK _ _ ⟨Ext.refl _, rfl⟩)
          refine ⟨⟨fun _ _ => trivial, fun ρ w' hX hG hk => ?_⟩, ?_⟩
          · obtain ⟨k0, k1, k2, -⟩ := hk
            have e0 : ρ (.tmp 117) = Value.bool false := k0
            have e1 : ρ (Operand.const (Value.bool true)) = (Value.bool true) := k1
            have e2 : ρ (.tmp 125) = Value.bool false := k2
            clear k0 k1 k2
            refine Par.val_k fun K hK => ?_
            unfold Par.val
            (go_simp; exact hK _ _ ⟨Ext.refl _, rfl⟩)
          trivial
        intro a' w' inv
        have hX := inv.ext
        have q86 : a'.tmps.getD 86 undef = Value.bool true := inv.done 0 _ 86 rfl rfl rfl
        have q87 : a'.tmps.getD 87 undef = Value.bool false := inv.done 1 _ 87 rfl rfl rfl
        have q88 : a'.tmps.getD 88 undef = Value.bool false := inv.done 2 _ 88 rfl rfl rfl
        have q89 : a'.tmps.getD 89 undef = vU h0 := inv.done 3 _ 89 rfl rfl rfl
        have q90 : a'.tmps.getD 90 undef = vU h0 := inv.done 4 _ 90 rfl rfl rfl
        have q91 : a'.tmps.getD 91 undef = Value.bool false := inv.done 5 _ 91 rfl rfl rfl
        have q92 : a'.tmps.getD 92 undef = Value.bool false := inv.done 6 _ 92 rfl rfl rfl
        have q93 : a'.tmps.getD 93 undef = Value.bool false := inv.done 7 _ 93 rfl rfl rfl
        have q94 : a'.tmps.getD 94 undef = Value.bool n0 := inv.done 8 _ 94 rfl rfl rfl
        have q95 : a'.tmps.getD 95 undef = Value.bool n0 := inv.done 9 _ 95 rfl rfl rfl
        have q96 : a'.tmps.getD 96 undef = Value.bool false := inv.done 10 _ 96 rfl rfl rfl
        have q97 : a'.tmps.getD 97 undef = Value.bool false := inv.done 11 _ 97 rfl rfl rfl
        have q98 : a'.tmps.getD 98 undef = Value.bool false := inv.done 12 _ 98 rfl rfl rfl
        have q99 : a'.tmps.getD 99 undef = pv p := inv.done 13 _ 99 rfl rfl rfl
        have q100 : (fun v w' => Vec vU w' v J) (a'.tmps.getD 100 undef) w' := inv.done 14 _ 100 rfl rfl rfl
        have q101 : a'.tmps.getD 101 undef = pv r := inv.done 15 _ 101 rfl rfl rfl
        have q102 : a'.tmps.getD 102 undef = pv r := inv.done 16 _ 102 rfl rfl rfl
        have q103 : a'.tmps.getD 103 undef = pv r := inv.done 17 _ 103 rfl rfl rfl
        have q104 : a'.tmps.getD 104 undef = Value.slice ro J.length rc := inv.done 18 _ 104 rfl rfl rfl
        have q105 : a'.tmps.getD 105 undef = Value.bool true := inv.done 19 _ 105 rfl rfl rfl
        have q106 : a'.tmps.getD 106 undef = Value.bool false := inv.done 20 _ 106 rfl rfl rfl
        have q107 : a'.tmps.getD 107 undef = Value.bool false := inv.done 21 _ 107 rfl rfl rfl
        have q108 : a'.tmps.getD 108 undef = Value.bool false := inv.done 22 _ 108 rfl rfl rfl
        have q109 : a'.tmps.getD 109 undef = pv p := inv.done 23 _ 109 rfl rfl rfl
        have q110 : a'.tmps.getD 110 undef = vU id := inv.done 24 _ 110 rfl rfl rfl
        have q111 : a'.tmps.getD 111 undef = Value.bool hb := inv.done 25 _ 111 rfl rfl rfl
        have q112 : a'.tmps.getD 112 undef = pv r := inv.done 26 _ 112 rfl rfl rfl
        have q113 : a'.tmps.getD 113 undef = vU id := inv.done 27 _ 113 rfl rfl rfl
        have q114 : a'.tmps.getD 114 undef = Value.bool hb := inv.done 28 _ 114 rfl rfl rfl
        have q115 : a'.tmps.getD 115 undef = Value.bool false := inv.done 29 _ 115 rfl rfl rfl
        have q116 : a'.tmps.getD 116 undef = Value.bool false := inv.done 30 _ 116 rfl rfl rfl
        have q117 : a'.tmps.getD 117 undef = Value.bool false := inv.done 31 _ 117 rfl rfl rfl
        have q118 : a'.tmps.getD 118 undef = pv p := inv.done 32 _ 118 rfl rfl rfl
        have q119 : a'.tmps.getD 119 undef = Value.int IntKind.i64 (J.length : Nat) := inv.done 33 _ 119 rfl rfl rfl
        have q120 : a'.tmps.getD 120 undef = pv r := inv.done 34 _ 120 rfl rfl rfl
        have q121 : a'.tmps.getD 121 undef = pv r := inv.done 35 _ 121 rfl rfl rfl
        have q122 : a'.tmps.getD 122 undef = pv r := inv.done 36 _ 122 rfl rfl rfl
        have q123 : a'.tmps.getD 123 undef = Value.slice ro J.length rc := inv.done 37 _ 123 rfl rfl rfl
        have q124 : a'.tmps.getD 124 undef = Value.int IntKind.i64 (J.length : Nat) := inv.done 38 _ 124 rfl rfl rfl
        have q125 : a'.tmps.getD 125 undef = Value.bool false := inv.done 39 _ 125 rfl rfl rfl
        have q126 : a'.tmps.getD 126 undef = Value.bool false := inv.done 40 _ 126 rfl rfl rfl
        clear inv
        simp only [List.filterMap_cons, List.filterMap_nil, Par.putAll, Act.put, List.setIfInBounds_toArray, List.set_cons_succ, List.set_cons_zero, q86, q87, q88, q89, q90, q91, q92, q93, q94, q95, q96, q97, q98, q99, q101, q102, q103, q104, q105, q106, q107, q108, q109, q110, q111, q112, q113, q114, q115, q116, q117, q118, q119, q120, q121, q122, q123, q124, q125, q126]
        clear q86 q87 q88 q89 q90 q91 q92 q93 q94 q95 q96 q97 q98 q99 q101 q102 q103 q104 q105 q106 q107 q108 q109 q110 q111 q112 q113 q114 q115 q116 q117 q118 q119 q120 q121 q122 q123 q124 q125 q126
        generalize a'.tmps.getD 100 undef = u100 at *
        clear a'
        have HL7 := hid (HL6.out.ext hX)
        have HR7 := hid (HR6.out.ext hX)
        have HE7 : Hid (Ext w _) := hid (HE6.out.trans hX)
        clear hX HL6 HR6 HE6 KR HV6 HJJ HHB
        go_wp2
        go_roundw
        case rel => exact ⟨k + 1, l5, J, by omega, by go_num, HN5, HL7, HR7, HE7⟩
        case measure => simp [intOf]; omega
      have hd1' : (d == (1 : Int)) = false := by simp [hd1]
      clear hd1
      by_cases hd2 : d = 2
      · subst hd2
        go_wp2_with fail
        obtain ⟨BB, hBB⟩ : ∃ BB, decide (x ∈ I) = BB := ⟨_, rfl⟩
        have HBB := hid hBB
        clear hBB
        have HN5 : Hid ((dropL x I).length ≤ k + 1) := hid (by have := dropL_len x I; have := HN.out; omega)
        refine ParC.wp_region_c (l := [_, _, _, _, _, _, _, _, _, _]) rfl (R2 w p m r wr.heap.size l1 I (dropL x I) 2 x) (ParC.VC [ParC.EQ (pv p), ParC.EQ (Value.pointer (some ⟨wr.heap.size, 1, none⟩)), ParC.EQ (vU x), ParC.EQ (Value.bool BB), ParC.EQ (pv r), ParC.EQ (Value.pointer (some ⟨wr.heap.size, 1, none⟩)), ParC.EQ (vU x), ParC.EQ (Value.bool BB), ParC.EQ (Value.bool true), ParC.EQ (Value.bool true)]) (by kernel_rfl) (by kernel_rfl) (R2.start HE4.out HB4.out HL4.out HR4.out) ?_ ?_
        · refine ⟨fun L ρ w' hR hL hd hk => ?_, ?_⟩
          · exact Par.val_of_run rfl ⟨hR.other (by decide) (by decide), hk.1⟩
          refine ⟨fun L ρ w' hR hL hd hk => ?_, ?_⟩
          · obtain ⟨k0, -⟩ := hk
            have e0 : ρ (.tmp 8) = .pointer (some ⟨wr.heap.size, 0, none⟩) := k0
            clear k0
            refine Par.val_k fun K hK => ?_
            unfold Par.val
            (go_simp; exact hK _ _ ⟨hR.other (by decide) (by decide), rfl⟩)
          refine ⟨fun L ρ w' hR hL hd hk => ?_, ?_⟩
          · obtain ⟨k0, -⟩ := hk
            have e0 : ρ (.tmp 68) = Value.pointer (some ⟨wr.heap.size, 1, none⟩) := k0
            clear k0
            refine Par.val_k fun K hK => ?_
            unfold Par.val
            have c := (box2 hR.box).2
            (go_simp; exact hK _ _ ⟨hR.other (by decide) (by decide), rfl⟩)
          refine ⟨fun L ρ w' hR hL hd hk => ?_, ?_⟩
          · obtain ⟨k0, k1, k2, -⟩ := hk
            have e0 := k0
            have e1 : ρ (.tmp 67) = pv p := k1
            have e2 : ρ (.tmp 69) = vU x := k2
            clear k0 k1 k2
            refine Par.val_k fun K hK => ?_
            unfold Par.val
            refine Par.val_call Try.func12 (by kernel_rfl) rfl e0 ?_
            simp only [List.map_toArray, List.map_cons, List.map_nil, e1, e2]
            refine (drop_b w.heap.size _ p m _ I x (hR.s0 hL).1 hR.ext.size).mono ?_
            rintro e w2 ⟨rfl, l3, L3, F3, b3, -⟩
            exact ⟨_, rfl, hK _ _ ⟨hR.three hL L3 F3 b3, congrArg Value.bool HBB.out⟩⟩
          refine ⟨fun L ρ w' hR hL hd hk => ?_, ?_⟩
          · exact Par.val_of_run rfl ⟨hR.other (by decide) (by decide), hk.1⟩
          refine ⟨fun L ρ w' hR hL hd hk => ?_, ?_⟩
          · obtain ⟨k0, -⟩ := hk
            have e0 : ρ (.tmp 8) = .pointer (some ⟨wr.heap.size, 0, none⟩) := k0
            clear k0
            refine Par.val_k fun K hK => ?_
            unfold Par.val
            (go_simp; exact hK _ _ ⟨hR.other (by decide) (by decide), rfl⟩)
          refine ⟨fun L ρ w' hR hL hd hk => ?_, ?_⟩
          · obtain ⟨k0, -⟩ := hk
            have e0 : ρ (.tmp 72) = Value.pointer (some ⟨wr.heap.size, 1, none⟩) := k0
            clear k0
            refine Par.val_k fun K hK => ?_
            unfold Par.val
            have c := (box2 hR.box).2
            (go_simp; exact hK _ _ ⟨hR.other (by decide) (by decide), rfl⟩)
          refine ⟨fun L ρ w' hR hL hd hk => ?_, ?_⟩
          · obtain ⟨k0, k1, k2, -⟩ := hk
            have e0 := k0
            have e1 : ρ (.tmp 71) = pv r := k1
            have e2 : ρ (.tmp 73) = vU x := k2
            clear k0 k1 k2
            refine Par.val_k fun K hK => ?_
            unfold Par.val
            refine Par.val_call Try.func13 (by kernel_rfl) rfl e0 ?_
            simp only [List.map_toArray, List.map_cons, List.map_nil, e1, e2]
            have hL3 : L 3 = true := (show L 4 = true ∧ L 6 = true ∧ L 3 = true by simpa [Region.binds] using hd).2.2
            obtain ⟨l3, a1, a2⟩ := hR.s1 hL3 hL
            refine (rdrop_any w.heap.size _ r I x a2 hR.ext.size (by have := HN.out; omega)).mono ?_
            rintro e w2 ⟨rfl, R3, F3⟩
            exact ⟨_, rfl, hK _ _ ⟨hR.seven hL3 hL R3 F3 HBr.out hR.ext.size, congrArg Value.bool HBB.out⟩⟩
          refine ⟨fun L ρ w' hR hL hd hk => ?_, ?_⟩
          · obtain ⟨k0, k1, -⟩ := hk
            have e0 : ρ (.tmp 70) = Value.bool BB := k0
            have e1 : ρ (.tmp 74) = Value.bool BB := k1
            clear k0 k1
            refine Par.val_k fun K hK => ?_
            unfold Par.val
            (go_simp; exact hK _ _ ⟨hR.other (by decide) (by decide), rfl⟩)
          refine ⟨fun L ρ w' hR hL hd hk => ?_, ?_⟩
          · exact Par.val_of_run rfl ⟨hR.other (by decide) (by decide), hk.1⟩
          trivial
        intro a' w5 inv hR
        have q67 : a'.tmps.getD 67 undef = pv p := inv.done 0 _ 67 rfl rfl rfl
        have q68 : a'.tmps.getD 68 undef = Value.pointer (some ⟨wr.heap.size, 1, none⟩) := inv.done 1 _ 68 rfl rfl rfl
        have q69 : a'.tmps.getD 69 undef = vU x := inv.done 2 _ 69 rfl rfl rfl
        have q70 : a'.tmps.getD 70 undef = Value.bool BB := inv.done 3 _ 70 rfl rfl rfl
        have q71 : a'.tmps.getD 71 undef = pv r := inv.done 4 _ 71 rfl rfl rfl
        have q72 : a'.tmps.getD 72 undef = Value.pointer (some ⟨wr.heap.size, 1, none⟩) := inv.done 5 _ 72 rfl rfl rfl
        have q73 : a'.tmps.getD 73 undef = vU x := inv.done 6 _ 73 rfl rfl rfl
        have q74 : a'.tmps.getD 74 undef = Value.bool BB := inv.done 7 _ 74 rfl rfl rfl
        have q75 : a'.tmps.getD 75 undef = Value.bool true := inv.done 8 _ 75 rfl rfl rfl
        have q9 : a'.tmps.getD 9 undef = Value.bool true := inv.done 9 _ 9 rfl rfl rfl
        clear inv
        simp only [List.filterMap_cons, List.filterMap_nil, Par.putAll, Act.put, List.setIfInBounds_toArray, List.set_cons_succ, List.set_cons_zero, q67, q68, q69, q70, q71, q72, q73, q74, q75, q9]
        clear q67 q68 q69 q70 q71 q72 q73 q74 q75 q9
        clear a'
        obtain ⟨l5, L5, R5⟩ := hR.s2 rfl
        have HE5 : Hid (Ext w w5) := hid hR.ext
        have HL5 := hid L5
        have HR5 := hid R5
        clear L5 R5 hR HL4 HR4 HE4 HB4 HBB HL HR HE HN c0 c1
        obtain ⟨J, hJ⟩ : ∃ J, dropL x I = J := ⟨_, rfl⟩
        rw [hJ] at HL5 HR5 HN5
        clear hJ
        go_wp2_with fail
        refine (first_b w.heap.size _ p m _ J HL5.out).mono ?_
        rintro e w6 ⟨rfl, E6⟩
        obtain ⟨h0, n0, hf0⟩ : ∃ h0 n0, firstI J = .tuple #[vU h0, .bool n0] := ⟨_, _, rfl⟩
        rw [hf0]
        have HF0 := hid hf0
        have HL6 := hid (HL5.out.ext E6)
        have HR6 := hid (HR5.out.ext E6)
        have HE6 : Hid (Ext w w6) := hid (HE5.out.trans E6)
        clear hf0 E6 HL5 HR5 HE5
        go_wp2_with fail
        refine (rfirst_any w.heap.size _ r J HR6.out).mono ?_
        rintro e w7 ⟨he, rfl⟩
        rw [HF0.out] at he
        subst he
        obtain ⟨rv, hr6, ho6⟩ := HR6.out
        obtain ⟨ro, rc, rfl⟩ := ho6.shape
        have KR := hid (box1 hr6).1
        have HV6 := hid ho6.vec
        have HJJ : Hid ((J == J) = true) := hid (by simp)
        obtain ⟨hb, hhb⟩ : ∃ hb, decide (id ∈ J) = hb := ⟨_, rfl⟩
        have HHB := hid hhb
        clear hr6 ho6 hhb HF0
        go_wp2_with fail
        refine Par.wp_region_par (l := [_, _, _, _, _, _, _, _, _, _, _, _, _, _, _, _, _, _, _, _, _, _, _, _, _, _, _, _, _, _, _, _, _, _, _, _, _, _, _, _, _]) rfl Ext (Par.VL [Par.EQ (Value.bool true), Par.EQ (Value.bool false), Par.EQ (Value.bool false), Par.EQ (vU h0), Par.EQ (vU h0), Par.EQ (Value.bool false), Par.EQ (Value.bool false), Par.EQ (Value.bool false), Par.EQ (Value.bool n0), Par.EQ (Value.bool n0), Par.EQ (Value.bool false), Par.EQ (Value.bool false), Par.EQ (Value.bool false), Par.EQ (pv p), (fun v w' => Vec vU w' v J), Par.EQ (pv r), Par.EQ (pv r), Par.EQ (pv r), Par.EQ (Value.slice ro J.length rc), Par.EQ (Value.bool true), Par.EQ (Value.bool false), Par.EQ (Value.bool false), Par.EQ (Value.bool false), Par.EQ (pv p), Par.EQ (vU id), Par.EQ (Value.bool hb), Par.EQ (pv r), Par.EQ (vU id), Par.EQ (Value.bool hb), Par.EQ (Value.bool false), Par.EQ (Value.bool false), Par.EQ (Value.bool false), Par.EQ (pv p), Par.EQ (Value.int IntKind.i64 (J.length : Nat)), Par.EQ (pv r), Par.EQ (pv r), Par.EQ (pv r), Par.EQ (Value.slice ro J.length rc), Par.EQ (Value.int IntKind.i64 (J.length : Nat)), Par.EQ (Value.bool false), Par.EQ (Value.bool false)]) (by kernel_rfl) Ext.refl (fun _ _ _ h1 h2 => Ext.trans h1 h2) (Ext.draw _) (Par.VL_stab ?_) ?_ ?_
        · simp only [List.forall_mem_cons, List.not_mem_nil, false_implies, implies_true, and_true]
          refine ⟨fun _ _ _ _ h => h, fun _ _ _ _ h => h, fun _ _ _ _ h => h, fun _ _ _ _ h => h, fun _ _ _ _ h => h, fun _ _ _ _ h => h, fun _ _ _ _ h => h, fun _ _ _ _ h => h, fun _ _ _ _ h => h, fun _ _ _ _ h => h, fun _ _ _ _ h => h, fun _ _ _ _ h => h, fun _ _ _ _ h => h, fun _ _ _ _ h => h, fun v a b k h => h.ext k, fun _ _ _ _ h => h, fun _ _ _ _ h => h, fun _ _ _ _ h => h, fun _ _ _ _ h => h, fun _ _ _ _ h => h, fun _ _ _ _ h => h, fun _ _ _ _ h => h, fun _ _ _ _ h => h, fun _ _ _ _ h => h, fun _ _ _ _ h => h, fun _ _ _ _ h => h, fun _ _ _ _ h => h, fun _ _ _ _ h => h, fun _ _ _ _ h => h, fun _ _ _ _ h => h, fun _ _ _ _ h => h, fun _ _ _ _ h => h, fun _ _ _ _ h => h, fun _ _ _ _ h => h, fun _ _ _ _ h => h, fun _ _ _ _ h => h, fun _ _ _ _ h => h, fun _ _ _ _ h => h, fun _ _ _ _ h => h, fun _ _ _ _ h => h, fun _ _ _ _ h => h⟩
        · refine ⟨⟨fun _ _ => trivial, fun ρ w' hX hG hk => ?_⟩, ?_⟩
          · exact Par.val_of_run rfl ⟨Ext.refl _, hk.1⟩
          refine ⟨⟨fun _ _ => trivial, fun ρ w' hX hG hk => ?_⟩, ?_⟩
          · obtain ⟨k0, -⟩ := hk
            have e0 : ρ (.tmp 86) = Value.bool true := k0
            clear k0
            refine Par.val_k fun K hK => ?_
            unfold Par.val
            (go_simp; exact hK _ _ ⟨Ext.refl _, rfl⟩)
          refine ⟨⟨fun _ _ => trivial, fun ρ w' hX hG hk => ?_⟩, ?_⟩
          · exact Par.val_of_run rfl ⟨Ext.refl _, hk.1⟩
          refine ⟨⟨fun _ _ u hu => .inl hu, fun ρ w' hX hG hk => ?_⟩, ?_⟩
          · exact Par.val_of_run rfl ⟨Ext.refl _, hk.1⟩
          refine ⟨⟨fun _ _ u hu => .inl hu, fun ρ w' hX hG hk => ?_⟩, ?_⟩
          · exact Par.val_of_run rfl ⟨Ext.refl _, hk.1⟩
          refine ⟨⟨fun _ _ u hu => .inl hu, fun ρ w' hX hG hk => ?_⟩, ?_⟩
          · obtain ⟨k0, k1, -⟩ := hk
            have e0 : ρ (.tmp 89) = vU h0 := k0
            have e1 : ρ (.tmp 90) = vU h0 := k1
            clear k0 k1
            refine Par.val_k fun K hK => ?_
            unfold Par.val
            (go_simp; exact hK _ _ ⟨Ext.refl _, rfl⟩)
          refine ⟨⟨fun _ _ => trivial, fun ρ w' hX hG hk => ?_⟩, ?_⟩
          · obtain ⟨k0, k1, k2, -⟩ := hk
            have e0 : ρ (.tmp 88) = Value.bool false := k0
            have e1 : ρ (Operand.const (Value.bool true)) = (Value.bool true) := k1
            have e2 : ρ (.tmp 91) = Value.bool false := k2
            clear k0 k1 k2
            refine Par.val_k fun K hK => ?_
            unfold Par.val
            (go_simp; exact hK _ _ ⟨Ext.refl _, rfl⟩)
          refine ⟨⟨fun _ _ => trivial, fun ρ w' hX hG hk => ?_⟩, ?_⟩
          · exact Par.val_of_run rfl ⟨Ext.refl _, hk.1⟩
          refine ⟨⟨fun _ _ u hu => .inl hu, fun ρ w' hX hG hk => ?_⟩, ?_⟩
          · exact Par.val_of_run rfl ⟨Ext.refl _, hk.1⟩
          refine ⟨⟨fun _ _ u hu => .inl hu, fun ρ w' hX hG hk => ?_⟩, ?_⟩
          · exact Par.val_of_run rfl ⟨Ext.refl _, hk.1⟩
          refine ⟨⟨fun _ _ u hu => .inl hu, fun ρ w' hX hG hk => ?_⟩, ?_⟩
          · obtain ⟨k0, k1, -⟩ := hk
            have e0 : ρ (.tmp 94) = Value.bool n0 := k0
            have e1 : ρ (.tmp 95) = Value.bool n0 := k1
            clear k0 k1
            refine Par.val_k fun K hK => ?_
            unfold Par.val
            (go_simp; exact hK _ _ ⟨Ext.refl _, rfl⟩)
          refine ⟨⟨fun _ _ => trivial, fun ρ w' hX hG hk => ?_⟩, ?_⟩
          · obtain ⟨k0, k1, k2, -⟩ := hk
            have e0 : ρ (.tmp 93) = Value.bool false := k0
            have e1 : ρ (Operand.const (Value.bool true)) = (Value.bool true) := k1
            have e2 : ρ (.tmp 96) = Value.bool false := k2
            clear k0 k1 k2
            refine Par.val_k fun K hK => ?_
            unfold Par.val
            (go_simp; exact hK _ _ ⟨Ext.refl _, rfl⟩)
          refine ⟨⟨fun _ _ => trivial, fun ρ w' hX hG hk => ?_⟩, ?_⟩
          · exact Par.val_of_run rfl ⟨Ext.refl _, hk.1⟩
          refine ⟨⟨fun _ _ u hu => .inl hu, fun ρ w' hX hG hk => ?_⟩, ?_⟩
          · exact Par.val_of_run rfl ⟨Ext.refl _, hk.1⟩
          refine ⟨⟨fun _ _ u hu => .inl hu, fun ρ w' hX hG hk => ?_⟩, ?_⟩
          · obtain ⟨k0, k1, -⟩ := hk
            have e0 := k0
            have e1 : ρ (.tmp 99) = pv p := k1
            clear k0 k1
            refine Par.val_k fun K hK => ?_
            unfold Par.val
            refine Par.val_call Try.func17 (by kernel_rfl) rfl e0 ?_
            simp only [List.map_toArray, List.map_cons, List.map_nil, e1]
            refine (all_b w.heap.size _ p m _ J (HL6.out.ext hX) (by have := HN5.out; omega)).mono ?_
            rintro e w2 ⟨r2, rfl, hr, hx2⟩
            exact ⟨_, rfl, hK _ _ ⟨hx2, hr.vec⟩⟩
          refine ⟨⟨fun _ _ u hu => .inl hu, fun ρ w' hX hG hk => ?_⟩, ?_⟩
          · exact Par.val_of_run rfl ⟨Ext.refl _, hk.1⟩
          refine ⟨⟨fun _ _ u hu => .inl hu, fun ρ w' hX hG hk => ?_⟩, ?_⟩
          · obtain ⟨k0, -⟩ := hk
            have e0 : ρ (.tmp 101) = pv r := k0
            clear k0
            refine Par.val_k fun K hK => ?_
            unfold Par.val
            (go_simp; exact hK _ _ ⟨Ext.refl _, rfl⟩)
          refine ⟨⟨fun _ _ u hu => .inl hu, fun ρ w' hX hG hk => ?_⟩, ?_⟩
          · obtain ⟨k0, -⟩ := hk
            have e0 : ρ (.tmp 102) = pv r := k0
            clear k0
            refine Par.val_k fun K hK => ?_
            unfold Par.val
            (go_simp; exact hK _ _ ⟨Ext.refl _, rfl⟩)
          refine ⟨⟨fun _ _ u hu => .inl hu, fun ρ w' hX hG hk => ?_⟩, ?_⟩
          · obtain ⟨k0, -⟩ := hk
            have e0 : ρ (.tmp 103) = pv r := k0
            clear k0
            refine Par.val_k fun K hK => ?_
            unfold Par.val
            (have c := hX.cell KR.out; go_simp; exact hK _ _ ⟨Ext.refl _, rfl⟩)
          refine ⟨⟨fun _ _ u hu => .inl hu, fun ρ w' hX hG hk => ?_⟩, ?_⟩
          · obtain ⟨k0, k1, k2, -⟩ := hk
            have e0 := k0
            have e1 : (fun v w' => Vec vU w' v J) (ρ (.tmp 100)) w' := k1
            have e2 : ρ (.tmp 104) = Value.slice ro J.length rc := k2
            clear k0 k1 k2
            refine Par.val_k fun K hK => ?_
            unfold Par.val
            refine Par.val_call Try.func16 (by kernel_rfl) rfl e0 ?_
            simp only [List.map_toArray, List.map_cons, List.map_nil, e2]
            refine (rsame64_any _ _ J J _ e1 (HV6.out.ext hX)).mono ?_
            rintro e w2 ⟨rfl, h2⟩
            exact ⟨_, rfl, hK _ _ ⟨h2, (congrArg Value.bool HJJ.out)⟩⟩
          refine ⟨⟨fun _ _ u hu => .inl hu, fun ρ w' hX hG hk => ?_⟩, ?_⟩
          · obtain ⟨k0, -⟩ := hk
            have e0 : ρ (.tmp 105) = Value.bool true := k0
            clear k0
            refine Par.val_k fun K hK => ?_
            unfold Par.val
            (go_simp; exact hK _ _ ⟨Ext.refl _, rfl⟩)
          refine ⟨⟨fun _ _ => trivial, fun ρ w' hX hG hk => ?_⟩, ?_⟩
          · obtain ⟨k0, k1, k2, -⟩ := hk
            have e0 : ρ (.tmp 98) = Value.bool false := k0
            have e1 : ρ (Operand.const (Value.bool true)) = (Value.bool true) := k1
            have e2 : ρ (.tmp 106) = Value.bool false := k2
            clear k0 k1 k2
            refine Par.val_k fun K hK => ?_
            unfold Par.val
            (go_simp; exact hK _ _ ⟨Ext.refl _, rfl⟩)
          refine ⟨⟨fun _ _ => trivial, fun ρ w' hX hG hk => ?_⟩, ?_⟩
          · exact Par.val_of_run rfl ⟨Ext.refl _, hk.1⟩
          refine ⟨⟨fun _ _ u hu => .inl hu, fun ρ w' hX hG hk => ?_⟩, ?_⟩
          · exact Par.val_of_run rfl ⟨Ext.refl _, hk.1⟩
          refine ⟨⟨fun _ _ u hu => .inl hu, fun ρ w' hX hG hk => ?_⟩, ?_⟩
          · exact Par.val_of_run rfl ⟨Ext.refl _, hk.1⟩
          refine ⟨⟨fun _ _ u hu => .inl hu, fun ρ w' hX hG hk => ?_⟩, ?_⟩
          · obtain ⟨k0, k1, k2, -⟩ := hk
            have e0 := k0
            have e1 : ρ (.tmp 109) = pv p := k1
            have e2 : ρ (.tmp 110) = vU id := k2
            clear k0 k1 k2
            refine Par.val_k fun K hK => ?_
            unfold Par.val
            refine Par.val_call Try.func18 (by kernel_rfl) rfl e0 ?_
            simp only [List.map_toArray, List.map_cons, List.map_nil, e1, e2]
            refine (has_b w.heap.size _ p m _ J id (HL6.out.ext hX)).mono ?_
            rintro e w2 ⟨rfl, rfl⟩
            exact ⟨_, rfl, hK _ _ ⟨Ext.refl _, (congrArg Value.bool HHB.out)⟩⟩
          refine ⟨⟨fun _ _ u hu => .inl hu, fun ρ w' hX hG hk => ?_⟩, ?_⟩
          · exact Par.val_of_run rfl ⟨Ext.refl _, hk.1⟩
          refine ⟨⟨fun _ _ u hu => .inl hu, fun ρ w' hX hG hk => ?_⟩, ?_⟩
          · exact Par.val_of_run rfl ⟨Ext.refl _, hk.1⟩
          refine ⟨⟨fun _ _ u hu => .inl hu, fun ρ w' hX hG hk => ?_⟩, ?_⟩
          · obtain ⟨k0, k1, k2, -⟩ := hk
            have e0 := k0
            have e1 : ρ (.tmp 112) = pv r := k1
            have e2 : ρ (.tmp 113) = vU id := k2
            clear k0 k1 k2
            refine Par.val_k fun K hK => ?_
            unfold Par.val
            refine Par.val_call Try.func19 (by kernel_rfl) rfl e0 ?_
            simp only [List.map_toArray, List.map_cons, List.map_nil, e1, e2]
            refine (rhas_any w.heap.size _ r J id (HR6.out.ext hX)).mono ?_
            rintro e w2 ⟨rfl, rfl⟩
            exact ⟨_, rfl, hK _ _ ⟨Ext.refl _, (congrArg Value.bool HHB.out)⟩⟩
          refine ⟨⟨fun _ _ u hu => .inl hu, fun ρ w' hX hG hk => ?_⟩, ?_⟩
          · obtain ⟨k0, k1, -⟩ := hk
            have e0 : ρ (.tmp 111) = Value.bool hb := k0
            have e1 : ρ (.tmp 114) = Value.bool hb := k1
            clear k0 k1
            refine Par.val_k fun K hK => ?_
            unfold Par.val
            (go_simp; exact hK _ _ ⟨Ext.refl _, rfl⟩)
          refine ⟨⟨fun _ _ => trivial, fun ρ w' hX hG hk => ?_⟩, ?_⟩
          · obtain ⟨k0, k1, k2, -⟩ := hk
            have e0 : ρ (.tmp 108) = Value.bool false := k0
            have e1 : ρ (Operand.const (Value.bool true)) = (Value.bool true) := k1
            have e2 : ρ (.tmp 115) = Value.bool false := k2
            clear k0 k1 k2
            refine Par.val_k fun K hK => ?_
            unfold Par.val
            (go_simp; exact hK _ _ ⟨Ext.refl _, rfl⟩)
          refine ⟨⟨fun _ _ => trivial, fun ρ w' hX hG hk => ?_⟩, ?_⟩
          · exact Par.val_of_run rfl ⟨Ext.refl _, hk.1⟩
          refine ⟨⟨fun _ _ u hu => .inl hu, fun ρ w' hX hG hk => ?_⟩, ?_⟩
          · exact Par.val_of_run rfl ⟨Ext.refl _, hk.1⟩
          refine ⟨⟨fun _ _ u hu => .inl hu, fun ρ w' hX hG hk => ?_⟩, ?_⟩
          · obtain ⟨k0, k1, -⟩ := hk
            have e0 := k0
            have e1 : ρ (.tmp 118) = pv p := k1
            clear k0 k1
            refine Par.val_k fun K hK => ?_
            unfold Par.val
            refine Par.val_call Try.func20 (by kernel_rfl) rfl e0 ?_
            simp only [List.map_toArray, List.map_cons, List.map_nil, e1]
            refine (len_b w.heap.size _ p m _ J (HL6.out.ext hX)).mono ?_
            rintro e w2 ⟨rfl, rfl⟩
            exact ⟨_, rfl, hK _ _ ⟨Ext.refl _, rfl⟩⟩
          refine ⟨⟨fun _ _ u hu => .inl hu, fun ρ w' hX hG hk => ?_⟩, ?_⟩
          · exact Par.val_of_run rfl ⟨Ext.refl _, hk.1⟩
          refine ⟨⟨fun _ _ u hu => .inl hu, fun ρ w' hX hG hk => ?_⟩, ?_⟩
          · obtain ⟨k0, -⟩ := hk
            have e0 : ρ (.tmp 120) = pv r := k0
            clear k0
            refine Par.val_k fun K hK => ?_
            unfold Par.val
            (go_simp; exact hK _ _ ⟨Ext.refl _, rfl⟩)
          refine ⟨⟨fun _ _ u hu => .inl hu, fun ρ w' hX hG hk => ?_⟩, ?_⟩
          · obtain ⟨k0, -⟩ := hk
            have e0 : ρ (.tmp 121) = pv r := k0
            clear k0
            refine Par.val_k fun K hK => ?_
            unfold Par.val
            (go_simp; exact hK _ _ ⟨Ext.refl _, rfl⟩)
          refine ⟨⟨fun _ _ u hu => .inl hu, fun ρ w' hX hG hk => ?_⟩, ?_⟩
          · obtain ⟨k0, -⟩ := hk
            have e0 : ρ (.tmp 122) = pv r := k0
            clear k0
            refine Par.val_k fun K hK => ?_
            unfold Par.val
            (have c := hX.cell KR.out; go_simp; exact hK _ _ ⟨Ext.refl _, rfl⟩)
          refine ⟨⟨fun _ _ u hu => .inl hu, fun ρ w' hX hG hk => ?_⟩, ?_⟩
          · obtain ⟨k0, -⟩ := hk
            have e0 : ρ (.tmp 123) = Value.slice ro J.length rc := k0
            clear k0
            refine Par.val_k fun K hK => ?_
            unfold Par.val
            (go_simp; exact hK _ _ ⟨Ext.refl _, rfl⟩)
          refine ⟨⟨fun _ _ u hu => .inl hu, fun ρ w' hX hG hk => ?_⟩, ?_⟩
          · obtain ⟨k0, k1, -⟩ := hk
            have e0 : ρ (.tmp 119) = Value.int IntKind.i64 (J.length : Nat) := k0
            have e1 : ρ (.tmp 124) = Value.int IntKind.i64 (J.length : Nat) := k1
            clear k0 k1
            refine Par.val_k fun K hK => ?_
            unfold Par.val
            (go_simp; exact hK _ _ ⟨Ext.refl _, rfl⟩)
          refine ⟨⟨fun _ _ => trivial, fun ρ w' hX hG hk => ?_⟩, ?_⟩
          · obtain ⟨k0, k1, k2, -⟩ := hk
            have e0 : ρ (.tmp 117) = Value.bool false := k0
            have e1 : ρ (Operand.const (Value.bool true)) = (Value.bool true) := k1
            have e2 : ρ (.tmp 125) = Value.bool false := k2
            clear k0 k1 k2
            refine Par.val_k fun K hK => ?_
            unfold Par.val
            (go_simp; exact hK _ _ ⟨Ext.refl _, rfl⟩)
          trivial
        intro a' w' inv
        have hX := inv.ext
        have q86 : a'.tmps.getD 86 undef = Value.bool true := inv.done 0 _ 86 rfl rfl rfl
        have q87 : a'.tmps.getD 87 undef = Value.bool false := inv.done 1 _ 87 rfl rfl rfl
        have q88 : a'.tmps.getD 88 undef = Value.bool false := inv.done 2 _ 88 rfl rfl rfl
        have q89 : a'.tmps.getD 89 undef = vU h0 := inv.done 3 _ 89 rfl rfl rfl
        have q90 : a'.tmps.getD 90 undef = vU h0 := inv.done 4 _ 90 rfl rfl rfl
        have q91 : a'.tmps.getD 91 undef = Value.bool false := inv.done 5 _ 91 rfl rfl rfl
        have q92 : a'.tmps.getD 92 undef = Value.bool false := inv.done 6 _ 92 rfl rfl rfl
        have q93 : a'.tmps.getD 93 undef = Value.bool false := inv.done 7 _ 93 rfl rfl rfl
        have q94 : a'.tmps.getD 94 undef = Value.bool n0 := inv.done 8 _ 94 rfl rfl rfl
        have q95 : a'.tmps.getD 95 undef = Value.bool n0 := inv.done 9 _ 95 rfl rfl rfl
        have q96 : a'.tmps.getD 96 undef = Value.bool false := inv.done 10 _ 96 rfl rfl rfl
        have q97 : a'.tmps.getD 97 undef = Value.bool false := inv.done 11 _ 97 rfl rfl rfl
        have q98 : a'.tmps.getD 98 undef = Value.bool false := inv.done 12 _ 98 rfl rfl rfl
        have q99 : a'.tmps.getD 99 undef = pv p := inv.done 13 _ 99 rfl rfl rfl
        have q100 : (fun v w' => Vec vU w' v J) (a'.tmps.getD 100 undef) w' := inv.done 14 _ 100 rfl rfl rfl
        have q101 : a'.tmps.getD 101 undef = pv r := inv.done 15 _ 101 rfl rfl rfl
        have q102 : a'.tmps.getD 102 undef = pv r := inv.done 16 _ 102 rfl rfl rfl
        have q103 : a'.tmps.getD 103 undef = pv r := inv.done 17 _ 103 rfl rfl rfl
        have q104 : a'.tmps.getD 104 undef = Value.slice ro J.length rc := inv.done 18 _ 104 rfl rfl rfl
        have q105 : a'.tmps.getD 105 undef = Value.bool true := inv.done 19 _ 105 rfl rfl rfl
        have q106 : a'.tmps.getD 106 undef = Value.bool false := inv.done 20 _ 106 rfl rfl rfl
        have q107 : a'.tmps.getD 107 undef = Value.bool false := inv.done 21 _ 107 rfl rfl rfl
        have q108 : a'.tmps.getD 108 undef = Value.bool false := inv.done 22 _ 108 rfl rfl rfl
        have q109 : a'.tmps.getD 109 undef = pv p := inv.done 23 _ 109 rfl rfl rfl
        have q110 : a'.tmps.getD 110 undef = vU id := inv.done 24 _ 110 rfl rfl rfl
        have q111 : a'.tmps.getD 111 undef = Value.bool hb := inv.done 25 _ 111 rfl rfl rfl
        have q112 : a'.tmps.getD 112 undef = pv r := inv.done 26 _ 112 rfl rfl rfl
        have q113 : a'.tmps.getD 113 undef = vU id := inv.done 27 _ 113 rfl rfl rfl
        have q114 : a'.tmps.getD 114 undef = Value.bool hb := inv.done 28 _ 114 rfl rfl rfl
        have q115 : a'.tmps.getD 115 undef = Value.bool false := inv.done 29 _ 115 rfl rfl rfl
        have q116 : a'.tmps.getD 116 undef = Value.bool false := inv.done 30 _ 116 rfl rfl rfl
        have q117 : a'.tmps.getD 117 undef = Value.bool false := inv.done 31 _ 117 rfl rfl rfl
        have q118 : a'.tmps.getD 118 undef = pv p := inv.done 32 _ 118 rfl rfl rfl
        have q119 : a'.tmps.getD 119 undef = Value.int IntKind.i64 (J.length : Nat) := inv.done 33 _ 119 rfl rfl rfl
        have q120 : a'.tmps.getD 120 undef = pv r := inv.done 34 _ 120 rfl rfl rfl
        have q121 : a'.tmps.getD 121 undef = pv r := inv.done 35 _ 121 rfl rfl rfl
        have q122 : a'.tmps.getD 122 undef = pv r := inv.done 36 _ 122 rfl rfl rfl
        have q123 : a'.tmps.getD 123 undef = Value.slice ro J.length rc := inv.done 37 _ 123 rfl rfl rfl
        have q124 : a'.tmps.getD 124 undef = Value.int IntKind.i64 (J.length : Nat) := inv.done 38 _ 124 rfl rfl rfl
        have q125 : a'.tmps.getD 125 undef = Value.bool false := inv.done 39 _ 125 rfl rfl rfl
        have q126 : a'.tmps.getD 126 undef = Value.bool false := inv.done 40 _ 126 rfl rfl rfl
        clear inv
        simp only [List.filterMap_cons, List.filterMap_nil, Par.putAll, Act.put, List.setIfInBounds_toArray, List.set_cons_succ, List.set_cons_zero, q86, q87, q88, q89, q90, q91, q92, q93, q94, q95, q96, q97, q98, q99, q101, q102, q103, q104, q105, q106, q107, q108, q109, q110, q111, q112, q113, q114, q115, q116, q117, q118, q119, q120, q121, q122, q123, q124, q125, q126]
        clear q86 q87 q88 q89 q90 q91 q92 q93 q94 q95 q96 q97 q98 q99 q101 q102 q103 q104 q105 q106 q107 q108 q109 q110 q111 q112 q113 q114 q115 q116 q117 q118 q119 q120 q121 q122 q123 q124 q125 q126
        generalize a'.tmps.getD 100 undef = u100 at *
        clear a'
        have HL7 := hid (HL6.out.ext hX)
        have HR7 := hid (HR6.out.ext hX)
        have HE7 : Hid (Ext w _) := hid (HE6.out.trans hX)
        clear hX HL6 HR6 HE6 KR HV6 HJJ HHB
        go_wp2
        go_roundw
        case rel => exact ⟨k + 1, l5, J, by omega, by go_num, HN5, HL7, HR7, HE7⟩
        case measure => simp [intOf]; omega
      have hd2' : (d == (2 : Int)) = false := by simp [hd2]
      clear hd2
      have HN5 : Hid (I.length ≤ k + 1) := hid (Nat.le_succ_of_le HN.out)
      obtain ⟨J, hJ⟩ : ∃ J, I = J := ⟨_, rfl⟩
      have HL5 := HL4
      have HR5 := HR4
      have HE5 := HE4
      rw [hJ] at HL5 HR5 HN5
      obtain ⟨l5, hl5⟩ : ∃ l5, l1 = l5 := ⟨_, rfl⟩
      rw [hl5] at HL5
      clear HL4 HR4 HE4 HB4 hJ hl5 HL HR HE HN
      go_wp2_with fail
      refine (first_b w.heap.size _ p m _ J HL5.out).mono ?_
      rintro e w6 ⟨rfl, E6⟩
      obtain ⟨h0, n0, hf0⟩ : ∃ h0 n0, firstI J = .tuple #[vU h0, .bool n0] := ⟨_, _, rfl⟩
      rw [hf0]
      have HF0 := hid hf0
      have HL6 := hid (HL5.out.ext E6)
      have HR6 := hid (HR5.out.ext E6)
      have HE6 : Hid (Ext w w6) := hid (HE5.out.trans E6)
      clear hf0 E6 HL5 HR5 HE5
      go_wp2_with fail
      refine (rfirst_any w.heap.size _ r J HR6.out).mono ?_
      rintro e w7 ⟨he, rfl⟩
      rw [HF0.out] at he
      subst he
      obtain ⟨rv, hr6, ho6⟩ := HR6.out
      obtain ⟨ro, rc, rfl⟩ := ho6.shape
      have KR := hid (box1 hr6).1
      have HV6 := hid ho6.vec
      have HJJ : Hid ((J == J) = true) := hid (by simp)
      obtain ⟨hb, hhb⟩ : ∃ hb, decide (id ∈ J) = hb := ⟨_, rfl⟩
      have HHB := hid hhb
      clear hr6 ho6 hhb HF0
      go_wp2_with fail
      refine Par.wp_region_par (l := [_, _, _, _, _, _, _, _, _, _, _, _, _, _, _, _, _, _, _, _, _, _, _, _, _, _, _, _, _, _, _, _, _, _, _, _, _, _, _, _, _]) rfl Ext (Par.VL [Par.EQ (Value.bool true), Par.EQ (Value.bool false), Par.EQ (Value.bool false), Par.EQ (vU h0), Par.EQ (vU h0), Par.EQ (Value.bool false), Par.EQ (Value.bool false), Par.EQ (Value.bool false), Par.EQ (Value.bool n0), Par.EQ (Value.bool n0), Par.EQ (Value.bool false), Par.EQ (Value.bool false), Par.EQ (Value.bool false), Par.EQ (pv p), (fun v w' => Vec vU w' v J), Par.EQ (pv r), Par.EQ (pv r), Par.EQ (pv r), Par.EQ (Value.slice ro J.length rc), Par.EQ (Value.bool true), Par.EQ (Value.bool false), Par.EQ (Value.bool false), Par.EQ (Value.bool false), Par.EQ (pv p), Par.EQ (vU id), Par.EQ (Value.bool hb), Par.EQ (pv r), Par.EQ (vU id), Par.EQ (Value.bool hb), Par.EQ (Value.bool false), Par.EQ (Value.bool false), Par.EQ (Value.bool false), Par.EQ (pv p), Par.EQ (Value.int IntKind.i64 (J.length : Nat)), Par.EQ (pv r), Par.EQ (pv r), Par.EQ (pv r), Par.EQ (Value.slice ro J.length rc), Par.EQ (Value.int IntKind.i64 (J.length : Nat)), Par.EQ (Value.bool false), Par.EQ (Value.bool false)]) (by kernel_rfl) Ext.refl (fun _ _ _ h1 h2 => Ext.trans h1 h2) (Ext.draw _) (Par.VL_stab ?_) ?_ ?_
      · simp only [List.forall_mem_cons, List.not_mem_nil, false_implies, implies_true, and_true]
        refine ⟨fun _ _ _ _ h => h, fun _ _ _ _ h => h, fun _ _ _ _ h => h, fun _ _ _ _ h => h, fun _ _ _ _ h => h, fun _ _ _ _ h => h, fun _ _ _ _ h => h, fun _ _ _ _ h => h, fun _ _ _ _ h => h, fun _ _ _ _ h => h, fun _ _ _ _ h => h, fun _ _ _ _ h => h, fun _ _ _ _ h => h, fun _ _ _ _ h => h, fun v a b k h => h.ext k, fun _ _ _ _ h => h, fun _ _ _ _ h => h, fun _ _ _ _ h => h, fun _ _ _ _ h => h, fun _ _ _ _ h => h, fun _ _ _ _ h => h, fun _ _ _ _ h => h, fun _ _ _ _ h => h, fun _ _ _ _ h => h, fun _ _ _ _ h => h, fun _ _ _ _ h => h, fun _ _ _ _ h => h, fun _ _ _ _ h => h, fun _ _ _ _ h => h, fun _ _ _ _ h => h, fun _ _ _ _ h => h, fun _ _ _ _ h => h, fun _ _ _ _ h => h, fun _ _ _ _ h => h, fun _ _ _ _ h => h, fun _ _ _ _ h => h, fun _ _ _ _ h => h, fun _ _ _ _ h => h, fun _ _ _ _ h => h, fun _ _ _ _ h => h, fun _ _ _ _ h => h⟩
      · refine ⟨⟨fun _ _ => trivial, fun ρ w' hX hG hk => ?_⟩, ?_⟩
        · exact Par.val_of_run rfl ⟨Ext.refl _, hk.1⟩
        refine ⟨⟨fun _ _ => trivial, fun ρ w' hX hG hk => ?_⟩, ?_⟩
        · obtain ⟨k0, -⟩ := hk
          have e0 : ρ (.tmp 86) = Value.bool true := k0
          clear k0
          refine Par.val_k fun K hK => ?_
          unfold Par.val
          (go_simp; exact hK _ _ ⟨Ext.refl _, rfl⟩)
        refine ⟨⟨fun _ _ => trivial, fun ρ w' hX hG hk => ?_⟩, ?_⟩
        · exact Par.val_of_run rfl ⟨Ext.refl _, hk.1⟩
        refine ⟨⟨fun _ _ u hu => .inl hu, fun ρ w' hX hG hk => ?_⟩, ?_⟩
        · exact Par.val_of_run rfl ⟨Ext.refl _, hk.1⟩
        refine ⟨⟨fun _ _ u hu => .inl hu, fun ρ w' hX hG hk => ?_⟩, ?_⟩
        · exact Par.val_of_run rfl ⟨Ext.refl _, hk.1⟩
        refine ⟨⟨fun _ _ u hu => .inl hu, fun ρ w' hX hG hk => ?_⟩, ?_⟩
        · obtain ⟨k0, k1, -⟩ := hk
          have e0 : ρ (.tmp 89) = vU h0 := k0
          have e1 : ρ (.tmp 90) = vU h0 := k1
          clear k0 k1
          refine Par.val_k fun K hK => ?_
          unfold Par.val
          (go_simp; exact hK _ _ ⟨Ext.refl _, rfl⟩)
        refine ⟨⟨fun _ _ => trivial, fun ρ w' hX hG hk => ?_⟩, ?_⟩
        · obtain ⟨k0, k1, k2, -⟩ := hk
          have e0 : ρ (.tmp 88) = Value.bool false := k0
          have e1 : ρ (Operand.const (Value.bool true)) = (Value.bool true) := k1
          have e2 : ρ (.tmp 91) = Value.bool false := k2
          clear k0 k1 k2
          refine Par.val_k fun K hK => ?_
          unfold Par.val
          (go_simp; exact hK _ _ ⟨Ext.refl _, rfl⟩)
        refine ⟨⟨fun _ _ => trivial, fun ρ w' hX hG hk => ?_⟩, ?_⟩
        · exact Par.val_of_run rfl ⟨Ext.refl _, hk.1⟩
        refine ⟨⟨fun _ _ u hu => .inl hu, fun ρ w' hX hG hk => ?_⟩, ?_⟩
        · exact Par.val_of_run rfl ⟨Ext.refl _, hk.1⟩
        refine ⟨⟨fun _ _ u hu => .inl hu, fun ρ w' hX hG hk => ?_⟩, ?_⟩
        · exact Par.val_of_run rfl ⟨Ext.refl _, hk.1⟩
        refine ⟨⟨fun _ _ u hu => .inl hu, fun ρ w' hX hG hk => ?_⟩, ?_⟩
        · obtain ⟨k0, k1, -⟩ := hk
          have e0 : ρ (.tmp 94) = Value.bool n0 := k0
          have e1 : ρ (.tmp 95) = Value.bool n0 := k1
          clear k0 k1
          refine Par.val_k fun K hK => ?_
          unfold Par.val
          (go_simp; exact hK _ _ ⟨Ext.refl _, rfl⟩)
        refine ⟨⟨fun _ _ => trivial, fun ρ w' hX hG hk => ?_⟩, ?_⟩
        · obtain ⟨k0, k1, k2, -⟩ := hk
          have e0 : ρ (.tmp 93) = Value.bool false := k0
          have e1 : ρ (Operand.const (Value.bool true)) = (Value.bool true) := k1
          have e2 : ρ (.tmp 96) = Value.bool false := k2
          clear k0 k1 k2
          refine Par.val_k fun K hK => ?_
          unfold Par.val
          (go_simp; exact hK _ _ ⟨Ext.refl _, rfl⟩)
        refine ⟨⟨fun _ _ => trivial, fun ρ w' hX hG hk => ?_⟩, ?_⟩
        · exact Par.val_of_run rfl ⟨Ext.refl _, hk.1⟩
        refine ⟨⟨fun _ _ u hu => .inl hu, fun ρ w' hX hG hk => ?_⟩, ?_⟩
        · exact Par.val_of_run rfl ⟨Ext.refl _, hk.1⟩
        refine ⟨⟨fun _ _ u hu => .inl hu, fun ρ w' hX hG hk => ?_⟩, ?_⟩
        · obtain ⟨k0, k1, -⟩ := hk
          have e0 := k0
          have e1 : ρ (.tmp 99) = pv p := k1
          clear k0 k1
          refine Par.val_k fun K hK => ?_
          unfold Par.val
          refine Par.val_call Try.func17 (by kernel_rfl) rfl e0 ?_
          simp only [List.map_toArray, List.map_cons, List.map_nil, e1]
          refine (all_b w.heap.size _ p m _ J (HL6.out.ext hX) (by have := HN5.out; omega)).mono ?_
          rintro e w2 ⟨r2, rfl, hr, hx2⟩
          exact ⟨_, rfl, hK _ _ ⟨hx2, hr.vec⟩⟩
        refine ⟨⟨fun _ _ u hu => .inl hu, fun ρ w' hX hG hk => ?_⟩, ?_⟩
        · exact Par.val_of_run rfl ⟨Ext.refl _, hk.1⟩
        refine ⟨⟨fun _ _ u hu => .inl hu, fun ρ w' hX hG hk => ?_⟩, ?_⟩
        · obtain ⟨k0, -⟩ := hk
          have e0 : ρ (.tmp 101) = pv r := k0
          clear k0
          refine Par.val_k fun K hK => ?_
          unfold Par.val
          (go_simp; exact hK _ _ ⟨Ext.refl _, rfl⟩)
        refine ⟨⟨fun _ _ u hu => .inl hu, fun ρ w' hX hG hk => ?_⟩, ?_⟩
        · obtain ⟨k0, -⟩ := hk
          have e0 : ρ (.tmp 102) = pv r := k0
          clear k0
          refine Par.val_k fun K hK => ?_
          unfold Par.val
          (go_simp; exact hK _ _ ⟨Ext.refl _, rfl⟩)
        refine ⟨⟨fun _ _ u hu => .inl hu, fun ρ w' hX hG hk => ?_⟩, ?_⟩
        · obtain ⟨k0, -⟩ := hk
          have e0 : ρ (.tmp 103) = pv r := k0
          clear k0
          refine Par.val_k fun K hK => ?_
          unfold Par.val
          (have c := hX.cell KR.out; go_simp; exact hK _ _ ⟨Ext.refl _, rfl⟩)
        refine ⟨⟨fun _ _ u hu => .inl hu, fun ρ w' hX hG hk => ?_⟩, ?_⟩
        · obtain ⟨k0, k1, k2, -⟩ := hk
          have e0 := k0
          have e1 : (fun v w' => Vec vU w' v J) (ρ (.tmp 100)) w' := k1
          have e2 : ρ (.tmp 104) = Value.slice ro J.length rc := k2
          clear k0 k1 k2
          refine Par.val_k fun K hK => ?_
          unfold Par.val
          refine Par.val_call Try.func16 (by kernel_rfl) rfl e0 ?_
          simp only [List.map_toArray, List.map_cons, List.map_nil, e2]
          refine (rsame64_any _ _ J J _ e1 (HV6.out.ext hX)).mono ?_
          rintro e w2 ⟨rfl, h2⟩
          exact ⟨_, rfl, hK _ _ ⟨h2, (congrArg Value.bool HJJ.out)⟩⟩
        refine ⟨⟨fun _ _ u hu => .inl hu, fun ρ w' hX hG hk => ?_⟩, ?_⟩
        · obtain ⟨k0, -⟩ := hk
          have e0 : ρ (.tmp 105) = Value.bool true := k0
          clear k0
          refine Par.val_k fun K hK => ?_
          unfold Par.val
          (go_simp; exact hK _ _ ⟨Ext.refl _, rfl⟩)
        refine ⟨⟨fun _ _ => trivial, fun ρ w' hX hG hk => ?_⟩, ?_⟩
        · obtain ⟨k0, k1, k2, -⟩ := hk
          have e0 : ρ (.tmp 98) = Value.bool false := k0
          have e1 : ρ (Operand.const (Value.bool true)) = (Value.bool true) := k1
          have e2 : ρ (.tmp 106) = Value.bool false := k2
          clear k0 k1 k2
          refine Par.val_k fun K hK => ?_
          unfold Par.val
          (go_simp; exact hK _ _ ⟨Ext.refl _, rfl⟩)
        refine ⟨⟨fun _ _ => trivial, fun ρ w' hX hG hk => ?_⟩, ?_⟩
        · exact Par.val_of_run rfl ⟨Ext.refl _, hk.1⟩
        refine ⟨⟨fun _ _ u hu => .inl hu, fun ρ w' hX hG hk => ?_⟩, ?_⟩
        · exact Par.val_of_run rfl ⟨Ext.refl _, hk.1⟩
        refine ⟨⟨fun _ _ u hu => .inl hu, fun ρ w' hX hG hk => ?_⟩, ?_⟩
        · exact Par.val_of_run rfl ⟨Ext.refl _, hk.1⟩
        refine ⟨⟨fun _ _ u hu => .inl hu, fun ρ w' hX hG hk => ?_⟩, ?_⟩
        · obtain ⟨k0, k1, k2, -⟩ := hk
          have e0 := k0
          have e1 : ρ (.tmp 109) = pv p := k1
          have e2 : ρ (.tmp 110) = vU id := k2
          clear k0 k1 k2
          refine Par.val_k fun K hK => ?_
          unfold Par.val
          refine Par.val_call Try.func18 (by kernel_rfl) rfl e0 ?_
          simp only [List.map_toArray, List.map_cons, List.map_nil, e1, e2]
          refine (has_b w.heap.size _ p m _ J id (HL6.out.ext hX)).mono ?_
          rintro e w2 ⟨rfl, rfl⟩
          exact ⟨_, rfl, hK _ _ ⟨Ext.refl _, (congrArg Value.bool HHB.out)⟩⟩
        refine ⟨⟨fun _ _ u hu => .inl hu, fun ρ w' hX hG hk => ?_⟩, ?_⟩
        · exact Par.val_of_run rfl ⟨Ext.refl _, hk.1⟩
        refine ⟨⟨fun _ _ u hu => .inl hu, fun ρ w' hX hG hk => ?_⟩, ?_⟩
        · exact Par.val_of_run rfl ⟨Ext.refl _, hk.1⟩
        refine ⟨⟨fun _ _ u hu => .inl hu, fun ρ w' hX hG hk => ?_⟩, ?_⟩
        · obtain ⟨k0, k1, k2, -⟩ := hk
          have e0 := k0
          have e1 : ρ (.tmp 112) = pv r := k1
          have e2 : ρ (.tmp 113) = vU id := k2
          clear k0 k1 k2
          refine Par.val_k fun K hK => ?_
          unfold Par.val
          refine Par.val_call Try.func19 (by kernel_rfl) rfl e0 ?_
          simp only [List.map_toArray, List.map_cons, List.map_nil, e1, e2]
          refine (rhas_any w.heap.size _ r J id (HR6.out.ext hX)).mono ?_
          rintro e w2 ⟨rfl, rfl⟩
          exact ⟨_, rfl, hK _ _ ⟨Ext.refl _, (congrArg Value.bool HHB.out)⟩⟩
        refine ⟨⟨fun _ _ u hu => .inl hu, fun ρ w' hX hG hk => ?_⟩, ?_⟩
        · obtain ⟨k0, k1, -⟩ := hk
          have e0 : ρ (.tmp 111) = Value.bool hb := k0
          have e1 : ρ (.tmp 114) = Value.bool hb := k1
          clear k0 k1
          refine Par.val_k fun K hK => ?_
          unfold Par.val
          (go_simp; exact hK _ _ ⟨Ext.refl _, rfl⟩)
        refine ⟨⟨fun _ _ => trivial, fun ρ w' hX hG hk => ?_⟩, ?_⟩
        · obtain ⟨k0, k1, k2, -⟩ := hk
          have e0 : ρ (.tmp 108) = Value.bool false := k0
          have e1 : ρ (Operand.const (Value.bool true)) = (Value.bool true) := k1
          have e2 : ρ (.tmp 115) = Value.bool false := k2
          clear k0 k1 k2
          refine Par.val_k fun K hK => ?_
          unfold Par.val
          (go_simp; exact hK _ _ ⟨Ext.refl _, rfl⟩)
        refine ⟨⟨fun _ _ => trivial, fun ρ w' hX hG hk => ?_⟩, ?_⟩
        · exact Par.val_of_run rfl ⟨Ext.refl _, hk.1⟩
        refine ⟨⟨fun _ _ u hu => .inl hu, fun ρ w' hX hG hk => ?_⟩, ?_⟩
        · exact Par.val_of_run rfl ⟨Ext.refl _, hk.1⟩
        refine ⟨⟨fun _ _ u hu => .inl hu, fun ρ w' hX hG hk => ?_⟩, ?_⟩
        · obtain ⟨k0, k1, -⟩ := hk
          have e0 := k0
          have e1 : ρ (.tmp 118) = pv p := k1
          clear k0 k1
          refine Par.val_k fun K hK => ?_
          unfold Par.val
          refine Par.val_call Try.func20 (by kernel_rfl) rfl e0 ?_
          simp only [List.map_toArray, List.map_cons, List.map_nil, e1]
          refine (len_b w.heap.size _ p m _ J (HL6.out.ext hX)).mono ?_
          rintro e w2 ⟨rfl, rfl⟩
          exact ⟨_, rfl, hK _ _ ⟨Ext.refl _, rfl⟩⟩
        refine ⟨⟨fun _ _ u hu => .inl hu, fun ρ w' hX hG hk => ?_⟩, ?_⟩
        · exact Par.val_of_run rfl ⟨Ext.refl _, hk.1⟩
        refine ⟨⟨fun _ _ u hu => .inl hu, fun ρ w' hX hG hk => ?_⟩, ?_⟩
        · obtain ⟨k0, -⟩ := hk
          have e0 : ρ (.tmp 120) = pv r := k0
          clear k0
          refine Par.val_k fun K hK => ?_
          unfold Par.val
          (go_simp; exact hK _ _ ⟨Ext.refl _, rfl⟩)
        refine ⟨⟨fun _ _ u hu => .inl hu, fun ρ w' hX hG hk => ?_⟩, ?_⟩
        · obtain ⟨k0, -⟩ := hk
          have e0 : ρ (.tmp 121) = pv r := k0
          clear k0
          refine Par.val_k fun K hK => ?_
          unfold Par.val
          (go_simp; exact hK _ _ ⟨Ext.refl _, rfl⟩)
        refine ⟨⟨fun _ _ u hu => .inl hu, fun ρ w' hX hG hk => ?_⟩, ?_⟩
        · obtain ⟨k0, -⟩ := hk
          have e0 : ρ (.tmp 122) = pv r := k0
          clear k0
          refine Par.val_k fun K hK => ?_
          unfold Par.val
          (have c := hX.cell KR.out; go_simp; exact hK _ _ ⟨Ext.refl _, rfl⟩)
        refine ⟨⟨fun _ _ u hu => .inl hu, fun ρ w' hX hG hk => ?_⟩, ?_⟩
        · obtain ⟨k0, -⟩ := hk
          have e0 : ρ (.tmp 123) = Value.slice ro J.length rc := k0
          clear k0
          refine Par.val_k fun K hK => ?_
          unfold Par.val
          (go_simp; exact hK _ _ ⟨Ext.refl _, rfl⟩)
        refine ⟨⟨fun _ _ u hu => .inl hu, fun ρ w' hX hG hk => ?_⟩, ?_⟩
        · obtain ⟨k0, k1, -⟩ := hk
          have e0 : ρ (.tmp 119) = Value.int IntKind.i64 (J.length : Nat) := k0
          have e1 : ρ (.tmp 124) = Value.int IntKind.i64 (J.length : Nat) := k1
          clear k0 k1
          refine Par.val_k fun K hK => ?_
          unfold Par.val
          (go_simp; exact hK _ _ ⟨Ext.refl _, rfl⟩)
        refine ⟨⟨fun _ _ => trivial, fun ρ w' hX hG hk => ?_⟩, ?_⟩
        · obtain ⟨k0, k1, k2, -⟩ := hk
          have e0 : ρ (.tmp 117) = Value.bool false := k0
          have e1 : ρ (Operand.const (Value.bool true)) = (Value.bool true) := k1
          have e2 : ρ (.tmp 125) = Value.bool false := k2
          clear k0 k1 k2
          refine Par.val_k fun K hK => ?_
          unfold Par.val
          (go_simp; exact hK _ _ ⟨Ext.refl _, rfl⟩)
        trivial
      intro a' w' inv
      have hX := inv.ext
      have q86 : a'.tmps.getD 86 undef = Value.bool true := inv.done 0 _ 86 rfl rfl rfl
      have q87 : a'.tmps.getD 87 undef = Value.bool false := inv.done 1 _ 87 rfl rfl rfl
      have q88 : a'.tmps.getD 88 undef = Value.bool false := inv.done 2 _ 88 rfl rfl rfl
      have q89 : a'.tmps.getD 89 undef = vU h0 := inv.done 3 _ 89 rfl rfl rfl
      have q90 : a'.tmps.getD 90 undef = vU h0 := inv.done 4 _ 90 rfl rfl rfl
      have q91 : a'.tmps.getD 91 undef = Value.bool false := inv.done 5 _ 91 rfl rfl rfl
      have q92 : a'.tmps.getD 92 undef = Value.bool false := inv.done 6 _ 92 rfl rfl rfl
      have q93 : a'.tmps.getD 93 undef = Value.bool false := inv.done 7 _ 93 rfl rfl rfl
      have q94 : a'.tmps.getD 94 undef = Value.bool n0 := inv.done 8 _ 94 rfl rfl rfl
      have q95 : a'.tmps.getD 95 undef = Value.bool n0 := inv.done 9 _ 95 rfl rfl rfl
      have q96 : a'.tmps.getD 96 undef = Value.bool false := inv.done 10 _ 96 rfl rfl rfl
      have q97 : a'.tmps.getD 97 undef = Value.bool false := inv.done 11 _ 97 rfl rfl rfl
      have q98 : a'.tmps.getD 98 undef = Value.bool false := inv.done 12 _ 98 rfl rfl rfl
      have q99 : a'.tmps.getD 99 undef = pv p := inv.done 13 _ 99 rfl rfl rfl
      have q100 : (fun v w' => Vec vU w' v J) (a'.tmps.getD 100 undef) w' := inv.done 14 _ 100 rfl rfl rfl
      have q101 : a'.tmps.getD 101 undef = pv r := inv.done 15 _ 101 rfl rfl rfl
      have q102 : a'.tmps.getD 102 undef = pv r := inv.done 16 _ 102 rfl rfl rfl
      have q103 : a'.tmps.getD 103 undef = pv r := inv.done 17 _ 103 rfl rfl rfl
      have q104 : a'.tmps.getD 104 undef = Value.slice ro J.length rc := inv.done 18 _ 104 rfl rfl rfl
      have q105 : a'.tmps.getD 105 undef = Value.bool true := inv.done 19 _ 105 rfl rfl rfl
      have q106 : a'.tmps.getD 106 undef = Value.bool false := inv.done 20 _ 106 rfl rfl rfl
      have q107 : a'.tmps.getD 107 undef = Value.bool false := inv.done 21 _ 107 rfl rfl rfl
      have q108 : a'.tmps.getD 108 undef = Value.bool false := inv.done 22 _ 108 rfl rfl rfl
      have q109 : a'.tmps.getD 109 undef = pv p := inv.done 23 _ 109 rfl rfl rfl
      have q110 : a'.tmps.getD 110 undef = vU id := inv.done 24 _ 110 rfl rfl rfl
      have q111 : a'.tmps.getD 111 undef = Value.bool hb := inv.done 25 _ 111 rfl rfl rfl
      have q112 : a'.tmps.getD 112 undef = pv r := inv.done 26 _ 112 rfl rfl rfl
      have q113 : a'.tmps.getD 113 undef = vU id := inv.done 27 _ 113 rfl rfl rfl
      have q114 : a'.tmps.getD 114 undef = Value.bool hb := inv.done 28 _ 114 rfl rfl rfl
      have q115 : a'.tmps.getD 115 undef = Value.bool false := inv.done 29 _ 115 rfl rfl rfl
      have q116 : a'.tmps.getD 116 undef = Value.bool false := inv.done 30 _ 116 rfl rfl rfl
      have q117 : a'.tmps.getD 117 undef = Value.bool false := inv.done 31 _ 117 rfl rfl rfl
      have q118 : a'.tmps.getD 118 undef = pv p := inv.done 32 _ 118 rfl rfl rfl
      have q119 : a'.tmps.getD 119 undef = Value.int IntKind.i64 (J.length : Nat) := inv.done 33 _ 119 rfl rfl rfl
      have q120 : a'.tmps.getD 120 undef = pv r := inv.done 34 _ 120 rfl rfl rfl
      have q121 : a'.tmps.getD 121 undef = pv r := inv.done 35 _ 121 rfl rfl rfl
      have q122 : a'.tmps.getD 122 undef = pv r := inv.done 36 _ 122 rfl rfl rfl
      have q123 : a'.tmps.getD 123 undef = Value.slice ro J.length rc := inv.done 37 _ 123 rfl rfl rfl
      have q124 : a'.tmps.getD 124 undef = Value.int IntKind.i64 (J.length : Nat) := inv.done 38 _ 124 rfl rfl rfl
      have q125 : a'.tmps.getD 125 undef = Value.bool false := inv.done 39 _ 125 rfl rfl rfl
      have q126 : a'.tmps.getD 126 undef = Value.bool false := inv.done 40 _ 126 rfl rfl rfl
      clear inv
      simp only [List.filterMap_cons, List.filterMap_nil, Par.putAll, Act.put, List.setIfInBounds_toArray, List.set_cons_succ, List.set_cons_zero, q86, q87, q88, q89, q90, q91, q92, q93, q94, q95, q96, q97, q98, q99, q101, q102, q103, q104, q105, q106, q107, q108, q109, q110, q111, q112, q113, q114, q115, q116, q117, q118, q119, q120, q121, q122, q123, q124, q125, q126]
      clear q86 q87 q88 q89 q90 q91 q92 q93 q94 q95 q96 q97 q98 q99 q101 q102 q103 q104 q105 q106 q107 q108 q109 q110 q111 q112 q113 q114 q115 q116 q117 q118 q119 q120 q121 q122 q123 q124 q125 q126
      generalize a'.tmps.getD 100 undef = u100 at *
      clear a'
      have HL7 := hid (HL6.out.ext hX)
      have HR7 := hid (HR6.out.ext hX)
      have HE7 : Hid (Ext w _) := hid (HE6.out.trans hX)
      clear hX HL6 HR6 HE6 KR HV6 HJJ HHB
      go_wp2
      go_roundw
      case rel => exact ⟨k + 1, l5, J, by omega, by go_num, HN5, HL7, HR7, HE7⟩
      case measure => simp [intOf]; omega
    · obtain rfl : k = X.length := by omega
      have hi1 : decide ((X.length : Int) < X.length) = false := by simp
      go_wp2
      go_ret
      exact ⟨rfl, HE.out⟩
end Go.Proofs.Ytlnghgalmhmegaa
