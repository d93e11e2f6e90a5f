/- siftDown of a row of numbers. -/
import Derived.Test.YtpbmbjdiilnaeaaDoorSrtV
set_option linter.unusedSimpArgs false
set_option linter.unusedVariables false
namespace Go.Proofs.YtpbmbjdiilnaeaaDoor
open Go Go.RowKit Go.Tum Go.ChangeMaps Go.Sort
open Go.ParB (upd Lof)
open Go.ParE (putS slotsR slots Closed)

theorem sift_stop (hi first root : Nat) (d : Array UInt64) (h : hi ≤ 2 * root + 1) : siftDown ltU hi first root d = d := by
  rw [siftDown, dif_pos h]
theorem sift_left {hi first root c i0 i1 : Nat} (d : Array UInt64) (hc : c = 2 * root + 1) (h0 : i0 = first + root) (h1 : i1 = first + c) (h : c < hi) (hn : c + 1 < hi → ltU d[i1]! d[i1 + 1]! = false) :
    siftDown ltU hi first root d = if ltU d[i0]! d[i1]! then siftDown ltU hi first c (swp d i0 i1) else d := by
  subst hc h0 h1
  rw [siftDown, dif_neg (by omega), if_neg]
  · cases ltU d[first + root]! d[first + (2 * root + 1)]! <;> simp
  · intro hh
    rw [Bool.and_eq_true, decide_eq_true_eq] at hh
    have := hn hh.1
    rw [hh.2] at this
    cases this
theorem sift_right {hi first root c c2 i0 i1 i2 : Nat} (d : Array UInt64) (hc : c = 2 * root + 1) (hc2 : c2 = c + 1) (h0 : i0 = first + root) (h1 : i1 = first + c) (h2 : i2 = i1 + 1) (h : c2 < hi) (hn : ltU d[i1]! d[i2]! = true) :
    siftDown ltU hi first root d = if ltU d[i0]! d[i2]! then siftDown ltU hi first c2 (swp d i0 i2) else d := by
  subst hc hc2 h0 h1 h2
  rw [siftDown, dif_neg (by omega), if_pos]
  · rw [dif_pos (show 2 * root + 2 < hi by omega)]
    have e : first + (2 * root + 1) + 1 = first + (2 * root + 2) := by omega
    rw [e]
    cases ltU d[first + root]! d[first + (2 * root + 2)]! <;> simp
  · rw [Bool.and_eq_true, decide_eq_true_eq]
    exact ⟨by omega, hn⟩
set_option maxRecDepth 100000 in
set_option maxHeartbeats 2000000 in
theorem siftV_any {B : Nat} {w : World} (g n cap lo hi first : Nat) (d : Array UInt64) (h : RA w B g n cap d) (hlo : lo ≤ n) (hfn : first + hi ≤ n) (hbig : n ≤ 4611686018427387903) :
    Calls Tryd.prog 51 #[.slice (some ⟨g, 0, none⟩) n cap, .int .i64 (lo : Int), .int .i64 (hi : Int), .int .i64 (first : Int)] w fun e w' =>
      (∃ u, e = .returned u) ∧ RA w' B g n cap (siftDown ltU hi first lo d) ∧ Fr [g] w w' := by
  obtain ⟨D, hD⟩ : ∃ D, siftDown ltU hi first lo d = D := ⟨_, rfl⟩
  have HD := hid hD
  rw [hD]
  have H0 := hid h
  obtain ⟨hcap1, hcap2⟩ := h.bound
  clear h hD
  go_enter Tryd.func51, Tryd.ntmps51
  go_wp2
  go_loopw [8] (fun iv wr => ∃ (root : Nat) (e : Array UInt64), root ≤ n ∧ iv = .int .i64 (root : Int) ∧ Hid (RA wr B g n cap e) ∧ Hid (siftDown ltU hi first root e = D) ∧ Hid (Fr [g] w wr)) (fun iv _ => n + 1 - (intOf iv).toNat)
  case atStart => exact ⟨lo, d, hlo, by first | rfl | go_num, H0, HD, hid (Fr.refl _ _)⟩
  case round =>
    clear H0 HD
    obtain ⟨root, d, hrn, rfl, HR, HO, HF⟩ := hrel
    obtain ⟨m, hm⟩ : ∃ m, m = 2 * root := ⟨_, rfl⟩
    obtain ⟨c, hc⟩ : ∃ c, c = 2 * root + 1 := ⟨_, rfl⟩
    have hwm : IntKind.i64.wrap (2 * (root : Int)) = (m : Int) := i64v _ (by omega) (by omega)
    have hwc : IntKind.i64.wrap ((m : Int) + 1) = (c : Int) := i64v _ (by omega) (by omega)
    rcases Nat.lt_or_ge c hi with hci | hci
    · obtain ⟨c2, hc2⟩ : ∃ c2, c2 = c + 1 := ⟨_, rfl⟩
      obtain ⟨i0, hi0⟩ : ∃ i0, i0 = first + root := ⟨_, rfl⟩
      obtain ⟨i1, hi1⟩ : ∃ i1, i1 = first + c := ⟨_, rfl⟩
      obtain ⟨i2, hi2⟩ : ∃ i2, i2 = i1 + 1 := ⟨_, rfl⟩
      have hwc2 : IntKind.i64.wrap ((c : Int) + 1) = (c2 : Int) := i64v _ (by omega) (by omega)
      have hwi0 : IntKind.i64.wrap ((first : Int) + (root : Int)) = (i0 : Int) := i64v _ (by omega) (by omega)
      have hwi1 : IntKind.i64.wrap ((first : Int) + (c : Int)) = (i1 : Int) := i64v _ (by omega) (by omega)
      have hwi2 : IntKind.i64.wrap ((i1 : Int) + 1) = (i2 : Int) := i64v _ (by omega) (by omega)
      have hwi3 : IntKind.i64.wrap ((first : Int) + (c2 : Int)) = (i2 : Int) := i64v _ (by omega) (by omega)
      have hi0n : i0 < n := by omega
      have hi0m : (i0 : Int) < n := by omega
      have hi1n : i1 < n := by omega
      have hi1m : (i1 : Int) < n := by omega
      have hcn : c ≤ n := by omega
      have hge : (hi ≤ c) = False := by simp; omega
      obtain ⟨z0, Hz0, HCz0⟩ := cellV (B := B) (g := g) (n := n) (cap := cap) d i0 (by omega)
      obtain ⟨z1, Hz1, HCz1⟩ := cellV (B := B) (g := g) (n := n) (cap := cap) d i1 (by omega)
      have HE := hid (And.intro hc (And.intro hc2 (And.intro hi0 (And.intro hi1 (And.intro hi2 hm)))))
      rcases Nat.lt_or_ge c2 hi with hc2i | hc2i
      · have hi2n : i2 < n := by omega
        have hi2m : (i2 : Int) < n := by omega
        have hc2n : c2 ≤ n := by omega
        obtain ⟨z2, Hz2, HCz2⟩ := cellV (B := B) (g := g) (n := n) (cap := cap) d i2 (by omega)
        obtain ⟨b0, Hb0⟩ : ∃ b, Hid (ltU z1 z2 = b) := ⟨_, hid rfl⟩
        clear hc hc2 hi0 hi1 hi2 hm
        go_wp2_with fail
        refine Par.wp_region_par (l := [_, _, _, _, _, _, _, _, _, _, _, _, _, _, _, _, _, _, _, _]) rfl Ext (Par.VL [Par.EQ (Value.int IntKind.i64 (c : Int)), Par.EQ (Value.int IntKind.i64 (c2 : Int)), Par.EQ (Value.int IntKind.i64 (hi : Int)), Par.EQ (Value.bool true), Par.EQ (Value.bool true), Par.EQ (Value.slice (some ⟨g, 0, none⟩) n cap), Par.EQ (Value.int IntKind.i64 (first : Int)), Par.EQ (Value.int IntKind.i64 (c : Int)), Par.EQ (Value.int IntKind.i64 (i1 : Int)), Par.EQ (Value.pointer (some ⟨g, i1, none⟩)), Par.EQ (uv z1), Par.EQ (Value.slice (some ⟨g, 0, none⟩) n cap), Par.EQ (Value.int IntKind.i64 (first : Int)), Par.EQ (Value.int IntKind.i64 (c : Int)), Par.EQ (Value.int IntKind.i64 (i1 : Int)), Par.EQ (Value.int IntKind.i64 (i2 : Int)), Par.EQ (Value.pointer (some ⟨g, i2, none⟩)), Par.EQ (uv z2), Par.EQ (Value.bool b0), Par.EQ (Value.bool b0)]) (by kernel_rfl) Ext.refl (fun _ _ _ h1 h2 => Ext.trans h1 h2) (Ext.draw _) (Par.VL_stab ?_) ?_ ?_
        · simp only [List.forall_mem_cons, List.not_mem_nil, false_implies, implies_true, and_true]
          refine ⟨fun _ _ _ _ h => h, fun _ _ _ _ h => h, fun _ _ _ _ h => h, fun _ _ _ _ h => h, fun _ _ _ _ h => h, fun _ _ _ _ h => h, fun _ _ _ _ h => h, fun _ _ _ _ h => h, fun _ _ _ _ h => h, fun _ _ _ _ h => h, fun _ _ _ _ h => h, fun _ _ _ _ h => h, fun _ _ _ _ h => h, fun _ _ _ _ h => h, fun _ _ _ _ h => h, fun _ _ _ _ h => h, fun _ _ _ _ h => h, fun _ _ _ _ h => h, fun _ _ _ _ h => h, fun _ _ _ _ h => h⟩
        · refine ⟨⟨fun _ _ => trivial, fun ρ w' hX hG hk => ?_⟩, ?_⟩
          · exact Par.val_of_run rfl ⟨Ext.refl _, hk.1⟩
          refine ⟨⟨fun _ _ => trivial, fun ρ w' hX hG hk => ?_⟩, ?_⟩
          · obtain ⟨k0, k1, -⟩ := hk
            have e0 : ρ (.tmp 17) = Value.int IntKind.i64 (c : Int) := k0
            have e1 : ρ (Operand.const (Value.int IntKind.i64 1)) = (Value.int IntKind.i64 1) := k1
            clear k0 k1
            refine Par.val_k fun K hK => ?_
            unfold Par.val
            (go_simp; exact hK _ _ ⟨Ext.refl _, rfl⟩)
          refine ⟨⟨fun _ _ => trivial, fun ρ w' hX hG hk => ?_⟩, ?_⟩
          · exact Par.val_of_run rfl ⟨Ext.refl _, hk.1⟩
          refine ⟨⟨fun _ _ => trivial, fun ρ w' hX hG hk => ?_⟩, ?_⟩
          · obtain ⟨k0, k1, -⟩ := hk
            have e0 : ρ (.tmp 18) = Value.int IntKind.i64 (c2 : Int) := k0
            have e1 : ρ (.tmp 19) = Value.int IntKind.i64 (hi : Int) := k1
            clear k0 k1
            refine Par.val_k fun K hK => ?_
            unfold Par.val
            (go_simp; exact hK _ _ ⟨Ext.refl _, rfl⟩)
          refine ⟨⟨fun _ _ => trivial, fun ρ w' hX hG hk => ?_⟩, ?_⟩
          · exact Par.val_of_run rfl ⟨Ext.refl _, hk.1⟩
          refine ⟨⟨fun _ _ u hu => .inl hu, fun ρ w' hX hG hk => ?_⟩, ?_⟩
          · exact Par.val_of_run rfl ⟨Ext.refl _, hk.1⟩
          refine ⟨⟨fun _ _ u hu => .inl hu, fun ρ w' hX hG hk => ?_⟩, ?_⟩
          · exact Par.val_of_run rfl ⟨Ext.refl _, hk.1⟩
          refine ⟨⟨fun _ _ u hu => .inl hu, fun ρ w' hX hG hk => ?_⟩, ?_⟩
          · exact Par.val_of_run rfl ⟨Ext.refl _, hk.1⟩
          refine ⟨⟨fun _ _ u hu => .inl hu, fun ρ w' hX hG hk => ?_⟩, ?_⟩
          · obtain ⟨k0, k1, -⟩ := hk
            have e0 : ρ (.tmp 23) = Value.int IntKind.i64 (first : Int) := k0
            have e1 : ρ (.tmp 24) = Value.int IntKind.i64 (c : Int) := k1
            clear k0 k1
            refine Par.val_k fun K hK => ?_
            unfold Par.val
            (go_simp; exact hK _ _ ⟨Ext.refl _, rfl⟩)
          refine ⟨⟨fun _ _ u hu => .inl hu, fun ρ w' hX hG hk => ?_⟩, ?_⟩
          · obtain ⟨k0, k1, -⟩ := hk
            have e0 : ρ (.tmp 22) = Value.slice (some ⟨g, 0, none⟩) n cap := k0
            have e1 : ρ (.tmp 25) = Value.int IntKind.i64 (i1 : Int) := k1
            clear k0 k1
            refine Par.val_k fun K hK => ?_
            unfold Par.val
            (go_simp; exact hK _ _ ⟨Ext.refl _, rfl⟩)
          refine ⟨⟨fun _ _ u hu => .inl hu, fun ρ w' hX hG hk => ?_⟩, ?_⟩
          · obtain ⟨k0, -⟩ := hk
            have e0 : ρ (.tmp 26) = Value.pointer (some ⟨g, i1, none⟩) := k0
            clear k0
            refine Par.val_k fun K hK => ?_
            unfold Par.val
            (have cc := HCz1.out _ (RA.ext hX HR.out); go_simp; exact hK _ _ ⟨Ext.refl _, rfl⟩)
          refine ⟨⟨fun _ _ u hu => .inl hu, fun ρ w' hX hG hk => ?_⟩, ?_⟩
          · exact Par.val_of_run rfl ⟨Ext.refl _, hk.1⟩
          refine ⟨⟨fun _ _ u hu => .inl hu, fun ρ w' hX hG hk => ?_⟩, ?_⟩
          · exact Par.val_of_run rfl ⟨Ext.refl _, hk.1⟩
          refine ⟨⟨fun _ _ u hu => .inl hu, fun ρ w' hX hG hk => ?_⟩, ?_⟩
          · exact Par.val_of_run rfl ⟨Ext.refl _, hk.1⟩
          refine ⟨⟨fun _ _ u hu => .inl hu, fun ρ w' hX hG hk => ?_⟩, ?_⟩
          · obtain ⟨k0, k1, -⟩ := hk
            have e0 : ρ (.tmp 29) = Value.int IntKind.i64 (first : Int) := k0
            have e1 : ρ (.tmp 30) = Value.int IntKind.i64 (c : Int) := k1
            clear k0 k1
            refine Par.val_k fun K hK => ?_
            unfold Par.val
            (go_simp; exact hK _ _ ⟨Ext.refl _, rfl⟩)
          refine ⟨⟨fun _ _ u hu => .inl hu, fun ρ w' hX hG hk => ?_⟩, ?_⟩
          · obtain ⟨k0, k1, -⟩ := hk
            have e0 : ρ (.tmp 31) = Value.int IntKind.i64 (i1 : Int) := k0
            have e1 : ρ (Operand.const (Value.int IntKind.i64 1)) = (Value.int IntKind.i64 1) := k1
            clear k0 k1
            refine Par.val_k fun K hK => ?_
            unfold Par.val
            (go_simp; exact hK _ _ ⟨Ext.refl _, rfl⟩)
          refine ⟨⟨fun _ _ u hu => .inl hu, fun ρ w' hX hG hk => ?_⟩, ?_⟩
          · obtain ⟨k0, k1, -⟩ := hk
            have e0 : ρ (.tmp 28) = Value.slice (some ⟨g, 0, none⟩) n cap := k0
            have e1 : ρ (.tmp 32) = Value.int IntKind.i64 (i2 : Int) := k1
            clear k0 k1
            refine Par.val_k fun K hK => ?_
            unfold Par.val
            (go_simp; exact hK _ _ ⟨Ext.refl _, rfl⟩)
          refine ⟨⟨fun _ _ u hu => .inl hu, fun ρ w' hX hG hk => ?_⟩, ?_⟩
          · obtain ⟨k0, -⟩ := hk
            have e0 : ρ (.tmp 33) = Value.pointer (some ⟨g, i2, none⟩) := k0
            clear k0
            refine Par.val_k fun K hK => ?_
            unfold Par.val
            (have cc := HCz2.out _ (RA.ext hX HR.out); go_simp; exact hK _ _ ⟨Ext.refl _, rfl⟩)
          refine ⟨⟨fun _ _ u hu => .inl hu, fun ρ w' hX hG hk => ?_⟩, ?_⟩
          · obtain ⟨k0, k1, k2, -⟩ := hk
            have e0 := k0
            have e1 : ρ (.tmp 27) = uv z1 := k1
            have e2 : ρ (.tmp 34) = uv z2 := k2
            clear k0 k1 k2
            refine Par.val_k fun K hK => ?_
            unfold Par.val
            refine Par.val_call Tryd.func46 (by kernel_rfl) rfl e0 ?_
            simp only [List.map_toArray, List.map_cons, List.map_nil, e1, e2]
            refine (lessU_any z1 z2 _).mono ?_
            rintro e w2 ⟨rfl, rfl⟩
            exact ⟨_, rfl, hK _ _ ⟨Ext.refl _, (congrArg Value.bool Hb0.out)⟩⟩
          refine ⟨⟨fun _ _ => trivial, fun ρ w' hX hG hk => ?_⟩, ?_⟩
          · obtain ⟨k0, k1, k2, -⟩ := hk
            have e0 : ρ (.tmp 21) = Value.bool true := k0
            have e1 : ρ (.tmp 35) = Value.bool b0 := k1
            have e2 : ρ (Operand.const (Value.bool false)) = (Value.bool false) := k2
            clear k0 k1 k2
            refine Par.val_k fun K hK => ?_
            unfold Par.val
            (go_simp; exact hK _ _ ⟨Ext.refl _, rfl⟩)
          trivial
        intro a' w' inv
        have hX := inv.ext
        have q17 : a'.tmps.getD 17 undef = Value.int IntKind.i64 (c : Int) := inv.done 0 _ 17 rfl rfl rfl
        have q18 : a'.tmps.getD 18 undef = Value.int IntKind.i64 (c2 : Int) := inv.done 1 _ 18 rfl rfl rfl
        have q19 : a'.tmps.getD 19 undef = Value.int IntKind.i64 (hi : Int) := inv.done 2 _ 19 rfl rfl rfl
        have q20 : a'.tmps.getD 20 undef = Value.bool true := inv.done 3 _ 20 rfl rfl rfl
        have q21 : a'.tmps.getD 21 undef = Value.bool true := inv.done 4 _ 21 rfl rfl rfl
        have q22 : a'.tmps.getD 22 undef = Value.slice (some ⟨g, 0, none⟩) n cap := inv.done 5 _ 22 rfl rfl rfl
        have q23 : a'.tmps.getD 23 undef = Value.int IntKind.i64 (first : Int) := inv.done 6 _ 23 rfl rfl rfl
        have q24 : a'.tmps.getD 24 undef = Value.int IntKind.i64 (c : Int) := inv.done 7 _ 24 rfl rfl rfl
        have q25 : a'.tmps.getD 25 undef = Value.int IntKind.i64 (i1 : Int) := inv.done 8 _ 25 rfl rfl rfl
        have q26 : a'.tmps.getD 26 undef = Value.pointer (some ⟨g, i1, none⟩) := inv.done 9 _ 26 rfl rfl rfl
        have q27 : a'.tmps.getD 27 undef = uv z1 := inv.done 10 _ 27 rfl rfl rfl
        have q28 : a'.tmps.getD 28 undef = Value.slice (some ⟨g, 0, none⟩) n cap := inv.done 11 _ 28 rfl rfl rfl
        have q29 : a'.tmps.getD 29 undef = Value.int IntKind.i64 (first : Int) := inv.done 12 _ 29 rfl rfl rfl
        have q30 : a'.tmps.getD 30 undef = Value.int IntKind.i64 (c : Int) := inv.done 13 _ 30 rfl rfl rfl
        have q31 : a'.tmps.getD 31 undef = Value.int IntKind.i64 (i1 : Int) := inv.done 14 _ 31 rfl rfl rfl
        have q32 : a'.tmps.getD 32 undef = Value.int IntKind.i64 (i2 : Int) := inv.done 15 _ 32 rfl rfl rfl
        have q33 : a'.tmps.getD 33 undef = Value.pointer (some ⟨g, i2, none⟩) := inv.done 16 _ 33 rfl rfl rfl
        have q34 : a'.tmps.getD 34 undef = uv z2 := inv.done 17 _ 34 rfl rfl rfl
        have q35 : a'.tmps.getD 35 undef = Value.bool b0 := inv.done 18 _ 35 rfl rfl rfl
        have q36 : a'.tmps.getD 36 undef = Value.bool b0 := inv.done 19 _ 36 rfl rfl rfl
        clear inv
        simp only [List.filterMap_cons, List.filterMap_nil, Par.putAll, Act.put, List.setIfInBounds_toArray, List.set_cons_succ, List.set_cons_zero, q17, q18, q19, q20, q21, q22, q23, q24, q25, q26, q27, q28, q29, q30, q31, q32, q33, q34, q35, q36]
        clear q17 q18 q19 q20 q21 q22 q23 q24 q25 q26 q27 q28 q29 q30 q31 q32 q33 q34 q35 q36
        clear a'
        have HF2 := hid (HF.out.trans (Ext.fr hX))
        have HR2 := hid (RA.ext hX HR.out)
        clear hX HF HR
        have HF := HF2
        have HR := HR2
        clear HF2 HR2
        cases b0
        case true =>
          obtain ⟨b1, Hb1⟩ : ∃ b, Hid (ltU z0 z2 = b) := ⟨_, hid rfl⟩
          have HIN : Hid (siftDown ltU hi first root d = if b1 then siftDown ltU hi first c2 (swp d i0 i2) else d) := hid (by rw [sift_right d HE.out.1 HE.out.2.1 HE.out.2.2.1 HE.out.2.2.2.1 HE.out.2.2.2.2.1 hc2i (by rw [Hz1.out, Hz2.out]; exact Hb0.out), Hz0.out, Hz2.out, Hb1.out])
          go_wp2_with fail
          refine Par.wp_region_par (l := [_, _, _, _, _, _, _, _, _, _, _, _, _, _]) rfl Ext (Par.VL [Par.EQ (Value.slice (some ⟨g, 0, none⟩) n cap), Par.EQ (Value.int IntKind.i64 (first : Int)), Par.EQ (Value.int IntKind.i64 (root : Int)), Par.EQ (Value.int IntKind.i64 (i0 : Int)), Par.EQ (Value.pointer (some ⟨g, i0, none⟩)), Par.EQ (uv z0), Par.EQ (Value.slice (some ⟨g, 0, none⟩) n cap), Par.EQ (Value.int IntKind.i64 (first : Int)), Par.EQ (Value.int IntKind.i64 (c2 : Int)), Par.EQ (Value.int IntKind.i64 (i2 : Int)), Par.EQ (Value.pointer (some ⟨g, i2, none⟩)), Par.EQ (uv z2), Par.EQ (Value.bool b1), Par.EQ (Value.bool (!b1))]) (by kernel_rfl) Ext.refl (fun _ _ _ h1 h2 => Ext.trans h1 h2) (Ext.draw _) (Par.VL_stab ?_) ?_ ?_
          · simp only [List.forall_mem_cons, List.not_mem_nil, false_implies, implies_true, and_true]
            refine ⟨fun _ _ _ _ h => h, fun _ _ _ _ h => h, fun _ _ _ _ h => h, fun _ _ _ _ h => h, fun _ _ _ _ h => h, fun _ _ _ _ h => h, fun _ _ _ _ h => h, fun _ _ _ _ h => h, fun _ _ _ _ h => h, fun _ _ _ _ h => h, fun _ _ _ _ h => h, fun _ _ _ _ h => h, fun _ _ _ _ h => h, fun _ _ _ _ h => h⟩
          · refine ⟨⟨fun _ _ => trivial, fun ρ w' hX hG hk => ?_⟩, ?_⟩
            · exact Par.val_of_run rfl ⟨Ext.refl _, hk.1⟩
            refine ⟨⟨fun _ _ => trivial, fun ρ w' hX hG hk => ?_⟩, ?_⟩
            · exact Par.val_of_run rfl ⟨Ext.refl _, hk.1⟩
            refine ⟨⟨fun _ _ => trivial, fun ρ w' hX hG hk => ?_⟩, ?_⟩
            · exact Par.val_of_run rfl ⟨Ext.refl _, hk.1⟩
            refine ⟨⟨fun _ _ => trivial, fun ρ w' hX hG hk => ?_⟩, ?_⟩
            · obtain ⟨k0, k1, -⟩ := hk
              have e0 : ρ (.tmp 40) = Value.int IntKind.i64 (first : Int) := k0
              have e1 : ρ (.tmp 41) = Value.int IntKind.i64 (root : Int) := k1
              clear k0 k1
              refine Par.val_k fun K hK => ?_
              unfold Par.val
              (go_simp; exact hK _ _ ⟨Ext.refl _, rfl⟩)
            refine ⟨⟨fun _ _ => trivial, fun ρ w' hX hG hk => ?_⟩, ?_⟩
            · obtain ⟨k0, k1, -⟩ := hk
              have e0 : ρ (.tmp 39) = Value.slice (some ⟨g, 0, none⟩) n cap := k0
              have e1 : ρ (.tmp 42) = Value.int IntKind.i64 (i0 : Int) := k1
              clear k0 k1
              refine Par.val_k fun K hK => ?_
              unfold Par.val
              (go_simp; exact hK _ _ ⟨Ext.refl _, rfl⟩)
            refine ⟨⟨fun _ _ => trivial, fun ρ w' hX hG hk => ?_⟩, ?_⟩
            · obtain ⟨k0, -⟩ := hk
              have e0 : ρ (.tmp 43) = Value.pointer (some ⟨g, i0, none⟩) := k0
              clear k0
              refine Par.val_k fun K hK => ?_
              unfold Par.val
              (have cc := HCz0.out _ (RA.ext hX HR.out); go_simp; exact hK _ _ ⟨Ext.refl _, rfl⟩)
            refine ⟨⟨fun _ _ => trivial, fun ρ w' hX hG hk => ?_⟩, ?_⟩
            · exact Par.val_of_run rfl ⟨Ext.refl _, hk.1⟩
            refine ⟨⟨fun _ _ => trivial, fun ρ w' hX hG hk => ?_⟩, ?_⟩
            · exact Par.val_of_run rfl ⟨Ext.refl _, hk.1⟩
            refine ⟨⟨fun _ _ => trivial, fun ρ w' hX hG hk => ?_⟩, ?_⟩
            · exact Par.val_of_run rfl ⟨Ext.refl _, hk.1⟩
            refine ⟨⟨fun _ _ => trivial, fun ρ w' hX hG hk => ?_⟩, ?_⟩
            · obtain ⟨k0, k1, -⟩ := hk
              have e0 : ρ (.tmp 46) = Value.int IntKind.i64 (first : Int) := k0
              have e1 : ρ (.tmp 47) = Value.int IntKind.i64 (c2 : Int) := k1
              clear k0 k1
              refine Par.val_k fun K hK => ?_
              unfold Par.val
              (go_simp; exact hK _ _ ⟨Ext.refl _, rfl⟩)
            refine ⟨⟨fun _ _ => trivial, fun ρ w' hX hG hk => ?_⟩, ?_⟩
            · obtain ⟨k0, k1, -⟩ := hk
              have e0 : ρ (.tmp 45) = Value.slice (some ⟨g, 0, none⟩) n cap := k0
              have e1 : ρ (.tmp 48) = Value.int IntKind.i64 (i2 : Int) := k1
              clear k0 k1
              refine Par.val_k fun K hK => ?_
              unfold Par.val
              (go_simp; exact hK _ _ ⟨Ext.refl _, rfl⟩)
            refine ⟨⟨fun _ _ => trivial, fun ρ w' hX hG hk => ?_⟩, ?_⟩
            · obtain ⟨k0, -⟩ := hk
              have e0 : ρ (.tmp 49) = Value.pointer (some ⟨g, i2, none⟩) := k0
              clear k0
              refine Par.val_k fun K hK => ?_
              unfold Par.val
              (have cc := HCz2.out _ (RA.ext hX HR.out); go_simp; exact hK _ _ ⟨Ext.refl _, rfl⟩)
            refine ⟨⟨fun _ _ => trivial, fun ρ w' hX hG hk => ?_⟩, ?_⟩
            · obtain ⟨k0, k1, k2, -⟩ := hk
              have e0 := k0
              have e1 : ρ (.tmp 44) = uv z0 := k1
              have e2 : ρ (.tmp 50) = uv z2 := k2
              clear k0 k1 k2
              refine Par.val_k fun K hK => ?_
              unfold Par.val
              refine Par.val_call Tryd.func46 (by kernel_rfl) rfl e0 ?_
              simp only [List.map_toArray, List.map_cons, List.map_nil, e1, e2]
              refine (lessU_any z0 z2 _).mono ?_
              rintro e w2 ⟨rfl, rfl⟩
              exact ⟨_, rfl, hK _ _ ⟨Ext.refl _, (congrArg Value.bool Hb1.out)⟩⟩
            refine ⟨⟨fun _ _ => trivial, fun ρ w' hX hG hk => ?_⟩, ?_⟩
            · obtain ⟨k0, -⟩ := hk
              have e0 : ρ (.tmp 51) = Value.bool b1 := k0
              clear k0
              refine Par.val_k fun K hK => ?_
              unfold Par.val
              (go_simp; exact hK _ _ ⟨Ext.refl _, rfl⟩)
            trivial
          intro a' w' inv
          have hX := inv.ext
          have q39 : a'.tmps.getD 39 undef = Value.slice (some ⟨g, 0, none⟩) n cap := inv.done 0 _ 39 rfl rfl rfl
          have q40 : a'.tmps.getD 40 undef = Value.int IntKind.i64 (first : Int) := inv.done 1 _ 40 rfl rfl rfl
          have q41 : a'.tmps.getD 41 undef = Value.int IntKind.i64 (root : Int) := inv.done 2 _ 41 rfl rfl rfl
          have q42 : a'.tmps.getD 42 undef = Value.int IntKind.i64 (i0 : Int) := inv.done 3 _ 42 rfl rfl rfl
          have q43 : a'.tmps.getD 43 undef = Value.pointer (some ⟨g, i0, none⟩) := inv.done 4 _ 43 rfl rfl rfl
          have q44 : a'.tmps.getD 44 undef = uv z0 := inv.done 5 _ 44 rfl rfl rfl
          have q45 : a'.tmps.getD 45 undef = Value.slice (some ⟨g, 0, none⟩) n cap := inv.done 6 _ 45 rfl rfl rfl
          have q46 : a'.tmps.getD 46 undef = Value.int IntKind.i64 (first : Int) := inv.done 7 _ 46 rfl rfl rfl
          have q47 : a'.tmps.getD 47 undef = Value.int IntKind.i64 (c2 : Int) := inv.done 8 _ 47 rfl rfl rfl
          have q48 : a'.tmps.getD 48 undef = Value.int IntKind.i64 (i2 : Int) := inv.done 9 _ 48 rfl rfl rfl
          have q49 : a'.tmps.getD 49 undef = Value.pointer (some ⟨g, i2, none⟩) := inv.done 10 _ 49 rfl rfl rfl
          have q50 : a'.tmps.getD 50 undef = uv z2 := inv.done 11 _ 50 rfl rfl rfl
          have q51 : a'.tmps.getD 51 undef = Value.bool b1 := inv.done 12 _ 51 rfl rfl rfl
          have q52 : a'.tmps.getD 52 undef = Value.bool (!b1) := inv.done 13 _ 52 rfl rfl rfl
          clear inv
          simp only [List.filterMap_cons, List.filterMap_nil, Par.putAll, Act.put, List.setIfInBounds_toArray, List.set_cons_succ, List.set_cons_zero, q39, q40, q41, q42, q43, q44, q45, q46, q47, q48, q49, q50, q51, q52]
          clear q39 q40 q41 q42 q43 q44 q45 q46 q47 q48 q49 q50 q51 q52
          clear a'
          have HF2 := hid (HF.out.trans (Ext.fr hX))
          have HR2 := hid (RA.ext hX HR.out)
          clear hX HF HR
          have HF := HF2
          have HR := HR2
          clear HF2 HR2
          cases b1
          case false =>
            have HO3 : Hid (d = D) := hid (by have := HO.out; rw [HIN.out] at this; simpa using this)
            go_wp2
            go_returns
            exact ⟨⟨_, rfl⟩, by have := HR.out; rw [HO3.out] at this; exact this, HF.out⟩
          case true =>
            have HO3 : Hid (siftDown ltU hi first c2 (swp d i0 i2) = D) := hid (by have := HO.out; rw [HIN.out] at this; simpa using this)
            go_wp2_with fail
            refine ParE.wp_region_e (l := [_, _, _, _, _, _, _, _, _, _, _, _, _, _, _, _, _, _, _, _, _, _, _, _]) rfl (Rg.Ch [21, 23] [] (SwV _ B g n cap i0 i2 z0 z2 d)) (ParC.VC [ParC.EQ (Value.slice (some ⟨g, 0, none⟩) n cap), ParC.EQ (Value.int IntKind.i64 (first : Int)), ParC.EQ (Value.int IntKind.i64 (root : Int)), ParC.EQ (Value.int IntKind.i64 (i0 : Int)), ParC.EQ (Value.slice (some ⟨g, 0, none⟩) n cap), ParC.EQ (Value.int IntKind.i64 (first : Int)), ParC.EQ (Value.int IntKind.i64 (c2 : Int)), ParC.EQ (Value.int IntKind.i64 (i2 : Int)), ParC.EQ (Value.slice (some ⟨g, 0, none⟩) n cap), ParC.EQ (Value.int IntKind.i64 (first : Int)), ParC.EQ (Value.int IntKind.i64 (c2 : Int)), ParC.EQ (Value.int IntKind.i64 (i2 : Int)), ParC.EQ (Value.pointer (some ⟨g, i2, none⟩)), ParC.EQ (uv z2), ParC.EQ (Value.slice (some ⟨g, 0, none⟩) n cap), ParC.EQ (Value.int IntKind.i64 (first : Int)), ParC.EQ (Value.int IntKind.i64 (root : Int)), ParC.EQ (Value.int IntKind.i64 (i0 : Int)), ParC.EQ (Value.pointer (some ⟨g, i0, none⟩)), ParC.EQ (uv z0), ParC.EQ (Value.pointer (some ⟨g, i0, none⟩)), fun _ => True, ParC.EQ (Value.pointer (some ⟨g, i2, none⟩)), fun _ => True]) (by kernel_rfl) (by kernel_rfl) (Rg.Ch.start ⟨fun _ => Ext.draw _, trivial⟩) ?_ ?_
            · refine ⟨fun L ρ w' hR hC hL hd hk => ?_, ?_⟩
              · exact Par.val_of_run rfl ⟨hR.other (by decide), hk.1⟩
              refine ⟨fun L ρ w' hR hC hL hd hk => ?_, ?_⟩
              · exact Par.val_of_run rfl ⟨hR.other (by decide), hk.1⟩
              refine ⟨fun L ρ w' hR hC hL hd hk => ?_, ?_⟩
              · exact Par.val_of_run rfl ⟨hR.other (by decide), hk.1⟩
              refine ⟨fun L ρ w' hR hC hL hd hk => ?_, ?_⟩
              · obtain ⟨k0, k1, -⟩ := hk
                have e0 : ρ (.tmp 54) = Value.int IntKind.i64 (first : Int) := k0
                have e1 : ρ (.tmp 55) = Value.int IntKind.i64 (root : Int) := k1
                clear k0 k1
                refine Par.val_k fun K hK => ?_
                unfold Par.val
                (go_simp; exact hK _ _ ⟨hR.other (by decide), rfl⟩)
              refine ⟨fun L ρ w' hR hC hL hd hk => ?_, ?_⟩
              · exact Par.val_of_run rfl ⟨hR.other (by decide), hk.1⟩
              refine ⟨fun L ρ w' hR hC hL hd hk => ?_, ?_⟩
              · exact Par.val_of_run rfl ⟨hR.other (by decide), hk.1⟩
              refine ⟨fun L ρ w' hR hC hL hd hk => ?_, ?_⟩
              · exact Par.val_of_run rfl ⟨hR.other (by decide), hk.1⟩
              refine ⟨fun L ρ w' hR hC hL hd hk => ?_, ?_⟩
              · obtain ⟨k0, k1, -⟩ := hk
                have e0 : ρ (.tmp 58) = Value.int IntKind.i64 (first : Int) := k0
                have e1 : ρ (.tmp 59) = Value.int IntKind.i64 (c2 : Int) := k1
                clear k0 k1
                refine Par.val_k fun K hK => ?_
                unfold Par.val
                (go_simp; exact hK _ _ ⟨hR.other (by decide), rfl⟩)
              refine ⟨fun L ρ w' hR hC hL hd hk => ?_, ?_⟩
              · exact Par.val_of_run rfl ⟨hR.other (by decide), hk.1⟩
              refine ⟨fun L ρ w' hR hC hL hd hk => ?_, ?_⟩
              · exact Par.val_of_run rfl ⟨hR.other (by decide), hk.1⟩
              refine ⟨fun L ρ w' hR hC hL hd hk => ?_, ?_⟩
              · exact Par.val_of_run rfl ⟨hR.other (by decide), hk.1⟩
              refine ⟨fun L ρ w' hR hC hL hd hk => ?_, ?_⟩
              · obtain ⟨k0, k1, -⟩ := hk
                have e0 : ρ (.tmp 62) = Value.int IntKind.i64 (first : Int) := k0
                have e1 : ρ (.tmp 63) = Value.int IntKind.i64 (c2 : Int) := k1
                clear k0 k1
                refine Par.val_k fun K hK => ?_
                unfold Par.val
                (go_simp; exact hK _ _ ⟨hR.other (by decide), rfl⟩)
              refine ⟨fun L ρ w' hR hC hL hd hk => ?_, ?_⟩
              · obtain ⟨k0, k1, -⟩ := hk
                have e0 : ρ (.tmp 61) = Value.slice (some ⟨g, 0, none⟩) n cap := k0
                have e1 : ρ (.tmp 64) = Value.int IntKind.i64 (i2 : Int) := k1
                clear k0 k1
                refine Par.val_k fun K hK => ?_
                unfold Par.val
                (go_simp; exact hK _ _ ⟨hR.other (by decide), rfl⟩)
              refine ⟨fun L ρ w' hR hC hL hd hk => ?_, ?_⟩
              · obtain ⟨k0, -⟩ := hk
                have e0 : ρ (.tmp 65) = Value.pointer (some ⟨g, i2, none⟩) := k0
                clear k0
                refine Par.val_k fun K hK => ?_
                unfold Par.val
                (obtain ⟨ii, hii, hq⟩ := hR.some 0 rfl (hC.notyet 21 13 hL (by kernel_rfl)); have cc := HCz2.out _ (RA.ext (hq.1 (by omega)) HR.out); go_simp; exact hK _ _ ⟨hR.other (by decide), rfl⟩)
              refine ⟨fun L ρ w' hR hC hL hd hk => ?_, ?_⟩
              · exact Par.val_of_run rfl ⟨hR.other (by decide), hk.1⟩
              refine ⟨fun L ρ w' hR hC hL hd hk => ?_, ?_⟩
              · exact Par.val_of_run rfl ⟨hR.other (by decide), hk.1⟩
              refine ⟨fun L ρ w' hR hC hL hd hk => ?_, ?_⟩
              · exact Par.val_of_run rfl ⟨hR.other (by decide), hk.1⟩
              refine ⟨fun L ρ w' hR hC hL hd hk => ?_, ?_⟩
              · obtain ⟨k0, k1, -⟩ := hk
                have e0 : ρ (.tmp 68) = Value.int IntKind.i64 (first : Int) := k0
                have e1 : ρ (.tmp 69) = Value.int IntKind.i64 (root : Int) := k1
                clear k0 k1
                refine Par.val_k fun K hK => ?_
                unfold Par.val
                (go_simp; exact hK _ _ ⟨hR.other (by decide), rfl⟩)
              refine ⟨fun L ρ w' hR hC hL hd hk => ?_, ?_⟩
              · obtain ⟨k0, k1, -⟩ := hk
                have e0 : ρ (.tmp 67) = Value.slice (some ⟨g, 0, none⟩) n cap := k0
                have e1 : ρ (.tmp 70) = Value.int IntKind.i64 (i0 : Int) := k1
                clear k0 k1
                refine Par.val_k fun K hK => ?_
                unfold Par.val
                (go_simp; exact hK _ _ ⟨hR.other (by decide), rfl⟩)
              refine ⟨fun L ρ w' hR hC hL hd hk => ?_, ?_⟩
              · obtain ⟨k0, -⟩ := hk
                have e0 : ρ (.tmp 71) = Value.pointer (some ⟨g, i0, none⟩) := k0
                clear k0
                refine Par.val_k fun K hK => ?_
                unfold Par.val
                (obtain ⟨ii, hii, hq⟩ := hR.some 0 rfl (hC.notyet 21 19 hL (by kernel_rfl)); have cc := HCz0.out _ (RA.ext (hq.1 (by omega)) HR.out); go_simp; exact hK _ _ ⟨hR.other (by decide), rfl⟩)
              refine ⟨fun L ρ w' hR hC hL hd hk => ?_, ?_⟩
              · obtain ⟨k0, k1, -⟩ := hk
                have e0 : ρ (.tmp 53) = Value.slice (some ⟨g, 0, none⟩) n cap := k0
                have e1 : ρ (.tmp 56) = Value.int IntKind.i64 (i0 : Int) := k1
                clear k0 k1
                refine Par.val_k fun K hK => ?_
                unfold Par.val
                (go_simp; exact hK _ _ ⟨hR.other (by decide), rfl⟩)
              refine ⟨fun L ρ w' hR hC hL hd hk => ?_, ?_⟩
              · obtain ⟨k0, k1, -⟩ := hk
                have e0 : ρ (.tmp 73) = Value.pointer (some ⟨g, i0, none⟩) := k0
                have e1 : ρ (.tmp 66) = uv z2 := k1
                clear k0 k1
                refine Par.val_k fun K hK => ?_
                unfold Par.val
                (obtain ⟨hq, hs⟩ := hR.go 0 rfl hL (.inl rfl) (by decide); have hx := hq.1 (by decide); have hrow := RA.ext hx HR.out; obtain ⟨cc, ff⟩ := hrow.at (j := i0) (by omega); obtain ⟨hset, hfs⟩ := hrow.set i0 z2; have HSET := hid hset; have HFS := hid hfs; clear hset hfs hrow; go_simp; exact hK _ _ ⟨hs none _ _ ⟨fun h => absurd h (by decide), HSET.out, (Ext.fr hx).trans HFS.out⟩, trivial⟩)
              refine ⟨fun L ρ w' hR hC hL hd hk => ?_, ?_⟩
              · obtain ⟨k0, k1, -⟩ := hk
                have e0 : ρ (.tmp 57) = Value.slice (some ⟨g, 0, none⟩) n cap := k0
                have e1 : ρ (.tmp 60) = Value.int IntKind.i64 (i2 : Int) := k1
                clear k0 k1
                refine Par.val_k fun K hK => ?_
                unfold Par.val
                (go_simp; exact hK _ _ ⟨hR.other (by decide), rfl⟩)
              refine ⟨fun L ρ w' hR hC hL hd hk => ?_, ?_⟩
              · obtain ⟨k0, k1, -⟩ := hk
                have e0 : ρ (.tmp 74) = Value.pointer (some ⟨g, i2, none⟩) := k0
                have e1 : ρ (.tmp 72) = uv z0 := k1
                clear k0 k1
                refine Par.val_k fun K hK => ?_
                unfold Par.val
                (obtain ⟨hq, hs⟩ := hR.go 1 rfl hL (.inr ⟨21, rfl, hC.before 21 (i := 23) rfl hd (by kernel_rfl)⟩) (by decide); obtain ⟨hrow, hfr⟩ := hq.2; obtain ⟨cc, ff⟩ := hrow.at (j := i2) (by omega); obtain ⟨hset, hfs⟩ := hrow.set i2 z0; have HSET := hid hset; have HFS := hid hfs; have HFR := hid hfr; clear hset hfs hrow hfr; go_simp; exact hK _ _ ⟨hs none _ _ ⟨fun h => absurd h (by decide), HSET.out, HFR.out.trans HFS.out⟩, trivial⟩)
              trivial
            intro a' w' inv hR
            have q53 : a'.tmps.getD 53 undef = Value.slice (some ⟨g, 0, none⟩) n cap := inv.done 0 _ 53 rfl rfl rfl
            have q54 : a'.tmps.getD 54 undef = Value.int IntKind.i64 (first : Int) := inv.done 1 _ 54 rfl rfl rfl
            have q55 : a'.tmps.getD 55 undef = Value.int IntKind.i64 (root : Int) := inv.done 2 _ 55 rfl rfl rfl
            have q56 : a'.tmps.getD 56 undef = Value.int IntKind.i64 (i0 : Int) := inv.done 3 _ 56 rfl rfl rfl
            have q57 : a'.tmps.getD 57 undef = Value.slice (some ⟨g, 0, none⟩) n cap := inv.done 4 _ 57 rfl rfl rfl
            have q58 : a'.tmps.getD 58 undef = Value.int IntKind.i64 (first : Int) := inv.done 5 _ 58 rfl rfl rfl
            have q59 : a'.tmps.getD 59 undef = Value.int IntKind.i64 (c2 : Int) := inv.done 6 _ 59 rfl rfl rfl
            have q60 : a'.tmps.getD 60 undef = Value.int IntKind.i64 (i2 : Int) := inv.done 7 _ 60 rfl rfl rfl
            have q61 : a'.tmps.getD 61 undef = Value.slice (some ⟨g, 0, none⟩) n cap := inv.done 8 _ 61 rfl rfl rfl
            have q62 : a'.tmps.getD 62 undef = Value.int IntKind.i64 (first : Int) := inv.done 9 _ 62 rfl rfl rfl
            have q63 : a'.tmps.getD 63 undef = Value.int IntKind.i64 (c2 : Int) := inv.done 10 _ 63 rfl rfl rfl
            have q64 : a'.tmps.getD 64 undef = Value.int IntKind.i64 (i2 : Int) := inv.done 11 _ 64 rfl rfl rfl
            have q65 : a'.tmps.getD 65 undef = Value.pointer (some ⟨g, i2, none⟩) := inv.done 12 _ 65 rfl rfl rfl
            have q66 : a'.tmps.getD 66 undef = uv z2 := inv.done 13 _ 66 rfl rfl rfl
            have q67 : a'.tmps.getD 67 undef = Value.slice (some ⟨g, 0, none⟩) n cap := inv.done 14 _ 67 rfl rfl rfl
            have q68 : a'.tmps.getD 68 undef = Value.int IntKind.i64 (first : Int) := inv.done 15 _ 68 rfl rfl rfl
            have q69 : a'.tmps.getD 69 undef = Value.int IntKind.i64 (root : Int) := inv.done 16 _ 69 rfl rfl rfl
            have q70 : a'.tmps.getD 70 undef = Value.int IntKind.i64 (i0 : Int) := inv.done 17 _ 70 rfl rfl rfl
            have q71 : a'.tmps.getD 71 undef = Value.pointer (some ⟨g, i0, none⟩) := inv.done 18 _ 71 rfl rfl rfl
            have q72 : a'.tmps.getD 72 undef = uv z0 := inv.done 19 _ 72 rfl rfl rfl
            have q73 : a'.tmps.getD 73 undef = Value.pointer (some ⟨g, i0, none⟩) := inv.done 20 _ 73 rfl rfl rfl
            have q74 : a'.tmps.getD 74 undef = Value.pointer (some ⟨g, i2, none⟩) := inv.done 22 _ 74 rfl rfl rfl
            clear inv
            simp only [List.filterMap_cons, List.filterMap_nil, Par.putAll, Act.put, List.setIfInBounds_toArray, List.set_cons_succ, List.set_cons_zero, q53, q54, q55, q56, q57, q58, q59, q60, q61, q62, q63, q64, q65, q66, q67, q68, q69, q70, q71, q72, q73, q74]
            clear q53 q54 q55 q56 q57 q58 q59 q60 q61 q62 q63 q64 q65 q66 q67 q68 q69 q70 q71 q72 q73 q74
            obtain ⟨-, hrd, hf⟩ := Rg.Ch.fin hR (by decide) 2 rfl; have HRD := hid hrd; have HF4 := hid hf; clear hrd hf hR
            try clear a'
            have HR3 := hid (RA.swp Hz0 Hz2 HRD.out)
            have HF3 := hid (HF.out.trans HF4.out)
            clear HRD HF4 HR HF
            have HR := HR3
            have HF := HF3
            clear HR3 HF3
            go_wp2
            go_roundw
            case rel => exact ⟨c2, swp d i0 i2, by omega, by first | rfl | go_num, HR, HO3, HF⟩
            case measure => simp [intOf]; have := HE.out; omega
        case false =>
          obtain ⟨b1, Hb1⟩ : ∃ b, Hid (ltU z0 z1 = b) := ⟨_, hid rfl⟩
          have HIN : Hid (siftDown ltU hi first root d = if b1 then siftDown ltU hi first c (swp d i0 i1) else d) := hid (by rw [sift_left d HE.out.1 HE.out.2.2.1 HE.out.2.2.2.1 hci (fun _ => by rw [← HE.out.2.2.2.2.1, Hz1.out, Hz2.out]; exact Hb0.out), Hz0.out, Hz1.out, Hb1.out])
          go_wp2_with fail
          refine Par.wp_region_par (l := [_, _, _, _, _, _, _, _, _, _, _, _, _, _]) rfl Ext (Par.VL [Par.EQ (Value.slice (some ⟨g, 0, none⟩) n cap), Par.EQ (Value.int IntKind.i64 (first : Int)), Par.EQ (Value.int IntKind.i64 (root : Int)), Par.EQ (Value.int IntKind.i64 (i0 : Int)), Par.EQ (Value.pointer (some ⟨g, i0, none⟩)), Par.EQ (uv z0), Par.EQ (Value.slice (some ⟨g, 0, none⟩) n cap), Par.EQ (Value.int IntKind.i64 (first : Int)), Par.EQ (Value.int IntKind.i64 (c : Int)), Par.EQ (Value.int IntKind.i64 (i1 : Int)), Par.EQ (Value.pointer (some ⟨g, i1, none⟩)), Par.EQ (uv z1), Par.EQ (Value.bool b1), Par.EQ (Value.bool (!b1))]) (by kernel_rfl) Ext.refl (fun _ _ _ h1 h2 => Ext.trans h1 h2) (Ext.draw _) (Par.VL_stab ?_) ?_ ?_
          · simp only [List.forall_mem_cons, List.not_mem_nil, false_implies, implies_true, and_true]
            refine ⟨fun _ _ _ _ h => h, fun _ _ _ _ h => h, fun _ _ _ _ h => h, fun _ _ _ _ h => h, fun _ _ _ _ h => h, fun _ _ _ _ h => h, fun _ _ _ _ h => h, fun _ _ _ _ h => h, fun _ _ _ _ h => h, fun _ _ _ _ h => h, fun _ _ _ _ h => h, fun _ _ _ _ h => h, fun _ _ _ _ h => h, fun _ _ _ _ h => h⟩
          · refine ⟨⟨fun _ _ => trivial, fun ρ w' hX hG hk => ?_⟩, ?_⟩
            · exact Par.val_of_run rfl ⟨Ext.refl _, hk.1⟩
            refine ⟨⟨fun _ _ => trivial, fun ρ w' hX hG hk => ?_⟩, ?_⟩
            · exact Par.val_of_run rfl ⟨Ext.refl _, hk.1⟩
            refine ⟨⟨fun _ _ => trivial, fun ρ w' hX hG hk => ?_⟩, ?_⟩
            · exact Par.val_of_run rfl ⟨Ext.refl _, hk.1⟩
            refine ⟨⟨fun _ _ => trivial, fun ρ w' hX hG hk => ?_⟩, ?_⟩
            · obtain ⟨k0, k1, -⟩ := hk
              have e0 : ρ (.tmp 40) = Value.int IntKind.i64 (first : Int) := k0
              have e1 : ρ (.tmp 41) = Value.int IntKind.i64 (root : Int) := k1
              clear k0 k1
              refine Par.val_k fun K hK => ?_
              unfold Par.val
              (go_simp; exact hK _ _ ⟨Ext.refl _, rfl⟩)
            refine ⟨⟨fun _ _ => trivial, fun ρ w' hX hG hk => ?_⟩, ?_⟩
            · obtain ⟨k0, k1, -⟩ := hk
              have e0 : ρ (.tmp 39) = Value.slice (some ⟨g, 0, none⟩) n cap := k0
              have e1 : ρ (.tmp 42) = Value.int IntKind.i64 (i0 : Int) := k1
              clear k0 k1
              refine Par.val_k fun K hK => ?_
              unfold Par.val
              (go_simp; exact hK _ _ ⟨Ext.refl _, rfl⟩)
            refine ⟨⟨fun _ _ => trivial, fun ρ w' hX hG hk => ?_⟩, ?_⟩
            · obtain ⟨k0, -⟩ := hk
              have e0 : ρ (.tmp 43) = Value.pointer (some ⟨g, i0, none⟩) := k0
              clear k0
              refine Par.val_k fun K hK => ?_
              unfold Par.val
              (have cc := HCz0.out _ (RA.ext hX HR.out); go_simp; exact hK _ _ ⟨Ext.refl _, rfl⟩)
            refine ⟨⟨fun _ _ => trivial, fun ρ w' hX hG hk => ?_⟩, ?_⟩
            · exact Par.val_of_run rfl ⟨Ext.refl _, hk.1⟩
            refine ⟨⟨fun _ _ => trivial, fun ρ w' hX hG hk => ?_⟩, ?_⟩
            · exact Par.val_of_run rfl ⟨Ext.refl _, hk.1⟩
            refine ⟨⟨fun _ _ => trivial, fun ρ w' hX hG hk => ?_⟩, ?_⟩
            · exact Par.val_of_run rfl ⟨Ext.refl _, hk.1⟩
            refine ⟨⟨fun _ _ => trivial, fun ρ w' hX hG hk => ?_⟩, ?_⟩
            · obtain ⟨k0, k1, -⟩ := hk
              have e0 : ρ (.tmp 46) = Value.int IntKind.i64 (first : Int) := k0
              have e1 : ρ (.tmp 47) = Value.int IntKind.i64 (c : Int) := k1
              clear k0 k1
              refine Par.val_k fun K hK => ?_
              unfold Par.val
              (go_simp; exact hK _ _ ⟨Ext.refl _, rfl⟩)
            refine ⟨⟨fun _ _ => trivial, fun ρ w' hX hG hk => ?_⟩, ?_⟩
            · obtain ⟨k0, k1, -⟩ := hk
              have e0 : ρ (.tmp 45) = Value.slice (some ⟨g, 0, none⟩) n cap := k0
              have e1 : ρ (.tmp 48) = Value.int IntKind.i64 (i1 : Int) := k1
              clear k0 k1
              refine Par.val_k fun K hK => ?_
              unfold Par.val
              (go_simp; exact hK _ _ ⟨Ext.refl _, rfl⟩)
            refine ⟨⟨fun _ _ => trivial, fun ρ w' hX hG hk => ?_⟩, ?_⟩
            · obtain ⟨k0, -⟩ := hk
              have e0 : ρ (.tmp 49) = Value.pointer (some ⟨g, i1, none⟩) := k0
              clear k0
              refine Par.val_k fun K hK => ?_
              unfold Par.val
              (have cc := HCz1.out _ (RA.ext hX HR.out); go_simp; exact hK _ _ ⟨Ext.refl _, rfl⟩)
            refine ⟨⟨fun _ _ => trivial, fun ρ w' hX hG hk => ?_⟩, ?_⟩
            · obtain ⟨k0, k1, k2, -⟩ := hk
              have e0 := k0
              have e1 : ρ (.tmp 44) = uv z0 := k1
              have e2 : ρ (.tmp 50) = uv z1 := k2
              clear k0 k1 k2
              refine Par.val_k fun K hK => ?_
              unfold Par.val
              refine Par.val_call Tryd.func46 (by kernel_rfl) rfl e0 ?_
              simp only [List.map_toArray, List.map_cons, List.map_nil, e1, e2]
              refine (lessU_any z0 z1 _).mono ?_
              rintro e w2 ⟨rfl, rfl⟩
              exact ⟨_, rfl, hK _ _ ⟨Ext.refl _, (congrArg Value.bool Hb1.out)⟩⟩
            refine ⟨⟨fun _ _ => trivial, fun ρ w' hX hG hk => ?_⟩, ?_⟩
            · obtain ⟨k0, -⟩ := hk
              have e0 : ρ (.tmp 51) = Value.bool b1 := k0
              clear k0
              refine Par.val_k fun K hK => ?_
              unfold Par.val
              (go_simp; exact hK _ _ ⟨Ext.refl _, rfl⟩)
            trivial
          intro a' w' inv
          have hX := inv.ext
          have q39 : a'.tmps.getD 39 undef = Value.slice (some ⟨g, 0, none⟩) n cap := inv.done 0 _ 39 rfl rfl rfl
          have q40 : a'.tmps.getD 40 undef = Value.int IntKind.i64 (first : Int) := inv.done 1 _ 40 rfl rfl rfl
          have q41 : a'.tmps.getD 41 undef = Value.int IntKind.i64 (root : Int) := inv.done 2 _ 41 rfl rfl rfl
          have q42 : a'.tmps.getD 42 undef = Value.int IntKind.i64 (i0 : Int) := inv.done 3 _ 42 rfl rfl rfl
          have q43 : a'.tmps.getD 43 undef = Value.pointer (some ⟨g, i0, none⟩) := inv.done 4 _ 43 rfl rfl rfl
          have q44 : a'.tmps.getD 44 undef = uv z0 := inv.done 5 _ 44 rfl rfl rfl
          have q45 : a'.tmps.getD 45 undef = Value.slice (some ⟨g, 0, none⟩) n cap := inv.done 6 _ 45 rfl rfl rfl
          have q46 : a'.tmps.getD 46 undef = Value.int IntKind.i64 (first : Int) := inv.done 7 _ 46 rfl rfl rfl
          have q47 : a'.tmps.getD 47 undef = Value.int IntKind.i64 (c : Int) := inv.done 8 _ 47 rfl rfl rfl
          have q48 : a'.tmps.getD 48 undef = Value.int IntKind.i64 (i1 : Int) := inv.done 9 _ 48 rfl rfl rfl
          have q49 : a'.tmps.getD 49 undef = Value.pointer (some ⟨g, i1, none⟩) := inv.done 10 _ 49 rfl rfl rfl
          have q50 : a'.tmps.getD 50 undef = uv z1 := inv.done 11 _ 50 rfl rfl rfl
          have q51 : a'.tmps.getD 51 undef = Value.bool b1 := inv.done 12 _ 51 rfl rfl rfl
          have q52 : a'.tmps.getD 52 undef = Value.bool (!b1) := inv.done 13 _ 52 rfl rfl rfl
          clear inv
          simp only [List.filterMap_cons, List.filterMap_nil, Par.putAll, Act.put, List.setIfInBounds_toArray, List.set_cons_succ, List.set_cons_zero, q39, q40, q41, q42, q43, q44, q45, q46, q47, q48, q49, q50, q51, q52]
          clear q39 q40 q41 q42 q43 q44 q45 q46 q47 q48 q49 q50 q51 q52
          clear a'
          have HF2 := hid (HF.out.trans (Ext.fr hX))
          have HR2 := hid (RA.ext hX HR.out)
          clear hX HF HR
          have HF := HF2
          have HR := HR2
          clear HF2 HR2
          cases b1
          case false =>
            have HO3 : Hid (d = D) := hid (by have := HO.out; rw [HIN.out] at this; simpa using this)
            go_wp2
            go_returns
            exact ⟨⟨_, rfl⟩, by have := HR.out; rw [HO3.out] at this; exact this, HF.out⟩
          case true =>
            have HO3 : Hid (siftDown ltU hi first c (swp d i0 i1) = D) := hid (by have := HO.out; rw [HIN.out] at this; simpa using this)
            go_wp2_with fail
            refine ParE.wp_region_e (l := [_, _, _, _, _, _, _, _, _, _, _, _, _, _, _, _, _, _, _, _, _, _, _, _]) rfl (Rg.Ch [21, 23] [] (SwV _ B g n cap i0 i1 z0 z1 d)) (ParC.VC [ParC.EQ (Value.slice (some ⟨g, 0, none⟩) n cap), ParC.EQ (Value.int IntKind.i64 (first : Int)), ParC.EQ (Value.int IntKind.i64 (root : Int)), ParC.EQ (Value.int IntKind.i64 (i0 : Int)), ParC.EQ (Value.slice (some ⟨g, 0, none⟩) n cap), ParC.EQ (Value.int IntKind.i64 (first : Int)), ParC.EQ (Value.int IntKind.i64 (c : Int)), ParC.EQ (Value.int IntKind.i64 (i1 : Int)), ParC.EQ (Value.slice (some ⟨g, 0, none⟩) n cap), ParC.EQ (Value.int IntKind.i64 (first : Int)), ParC.EQ (Value.int IntKind.i64 (c : Int)), ParC.EQ (Value.int IntKind.i64 (i1 : Int)), ParC.EQ (Value.pointer (some ⟨g, i1, none⟩)), ParC.EQ (uv z1), ParC.EQ (Value.slice (some ⟨g, 0, none⟩) n cap), ParC.EQ (Value.int IntKind.i64 (first : Int)), ParC.EQ (Value.int IntKind.i64 (root : Int)), ParC.EQ (Value.int IntKind.i64 (i0 : Int)), ParC.EQ (Value.pointer (some ⟨g, i0, none⟩)), ParC.EQ (uv z0), ParC.EQ (Value.pointer (some ⟨g, i0, none⟩)), fun _ => True, ParC.EQ (Value.pointer (some ⟨g, i1, none⟩)), fun _ => True]) (by kernel_rfl) (by kernel_rfl) (Rg.Ch.start ⟨fun _ => Ext.draw _, trivial⟩) ?_ ?_
            · refine ⟨fun L ρ w' hR hC hL hd hk => ?_, ?_⟩
              · exact Par.val_of_run rfl ⟨hR.other (by decide), hk.1⟩
              refine ⟨fun L ρ w' hR hC hL hd hk => ?_, ?_⟩
              · exact Par.val_of_run rfl ⟨hR.other (by decide), hk.1⟩
              refine ⟨fun L ρ w' hR hC hL hd hk => ?_, ?_⟩
              · exact Par.val_of_run rfl ⟨hR.other (by decide), hk.1⟩
              refine ⟨fun L ρ w' hR hC hL hd hk => ?_, ?_⟩
              · obtain ⟨k0, k1, -⟩ := hk
                have e0 : ρ (.tmp 54) = Value.int IntKind.i64 (first : Int) := k0
                have e1 : ρ (.tmp 55) = Value.int IntKind.i64 (root : Int) := k1
                clear k0 k1
                refine Par.val_k fun K hK => ?_
                unfold Par.val
                (go_simp; exact hK _ _ ⟨hR.other (by decide), rfl⟩)
              refine ⟨fun L ρ w' hR hC hL hd hk => ?_, ?_⟩
              · exact Par.val_of_run rfl ⟨hR.other (by decide), hk.1⟩
              refine ⟨fun L ρ w' hR hC hL hd hk => ?_, ?_⟩
              · exact Par.val_of_run rfl ⟨hR.other (by decide), hk.1⟩
              refine ⟨fun L ρ w' hR hC hL hd hk => ?_, ?_⟩
              · exact Par.val_of_run rfl ⟨hR.other (by decide), hk.1⟩
              refine ⟨fun L ρ w' hR hC hL hd hk => ?_, ?_⟩
              · obtain ⟨k0, k1, -⟩ := hk
                have e0 : ρ (.tmp 58) = Value.int IntKind.i64 (first : Int) := k0
                have e1 : ρ (.tmp 59) = Value.int IntKind.i64 (c : Int) := k1
                clear k0 k1
                refine Par.val_k fun K hK => ?_
                unfold Par.val
                (go_simp; exact hK _ _ ⟨hR.other (by decide), rfl⟩)
              refine ⟨fun L ρ w' hR hC hL hd hk => ?_, ?_⟩
              · exact Par.val_of_run rfl ⟨hR.other (by decide), hk.1⟩
              refine ⟨fun L ρ w' hR hC hL hd hk => ?_, ?_⟩
              · exact Par.val_of_run rfl ⟨hR.other (by decide), hk.1⟩
              refine ⟨fun L ρ w' hR hC hL hd hk => ?_, ?_⟩
              · exact Par.val_of_run rfl ⟨hR.other (by decide), hk.1⟩
              refine ⟨fun L ρ w' hR hC hL hd hk => ?_, ?_⟩
              · obtain ⟨k0, k1, -⟩ := hk
                have e0 : ρ (.tmp 62) = Value.int IntKind.i64 (first : Int) := k0
                have e1 : ρ (.tmp 63) = Value.int IntKind.i64 (c : Int) := k1
                clear k0 k1
                refine Par.val_k fun K hK => ?_
                unfold Par.val
                (go_simp; exact hK _ _ ⟨hR.other (by decide), rfl⟩)
              refine ⟨fun L ρ w' hR hC hL hd hk => ?_, ?_⟩
              · obtain ⟨k0, k1, -⟩ := hk
                have e0 : ρ (.tmp 61) = Value.slice (some ⟨g, 0, none⟩) n cap := k0
                have e1 : ρ (.tmp 64) = Value.int IntKind.i64 (i1 : Int) := k1
                clear k0 k1
                refine Par.val_k fun K hK => ?_
                unfold Par.val
                (go_simp; exact hK _ _ ⟨hR.other (by decide), rfl⟩)
              refine ⟨fun L ρ w' hR hC hL hd hk => ?_, ?_⟩
              · obtain ⟨k0, -⟩ := hk
                have e0 : ρ (.tmp 65) = Value.pointer (some ⟨g, i1, none⟩) := k0
                clear k0
                refine Par.val_k fun K hK => ?_
                unfold Par.val
                (obtain ⟨ii, hii, hq⟩ := hR.some 0 rfl (hC.notyet 21 13 hL (by kernel_rfl)); have cc := HCz1.out _ (RA.ext (hq.1 (by omega)) HR.out); go_simp; exact hK _ _ ⟨hR.other (by decide), rfl⟩)
              refine ⟨fun L ρ w' hR hC hL hd hk => ?_, ?_⟩
              · exact Par.val_of_run rfl ⟨hR.other (by decide), hk.1⟩
              refine ⟨fun L ρ w' hR hC hL hd hk => ?_, ?_⟩
              · exact Par.val_of_run rfl ⟨hR.other (by decide), hk.1⟩
              refine ⟨fun L ρ w' hR hC hL hd hk => ?_, ?_⟩
              · exact Par.val_of_run rfl ⟨hR.other (by decide), hk.1⟩
              refine ⟨fun L ρ w' hR hC hL hd hk => ?_, ?_⟩
              · obtain ⟨k0, k1, -⟩ := hk
                have e0 : ρ (.tmp 68) = Value.int IntKind.i64 (first : Int) := k0
                have e1 : ρ (.tmp 69) = Value.int IntKind.i64 (root : Int) := k1
                clear k0 k1
                refine Par.val_k fun K hK => ?_
                unfold Par.val
                (go_simp; exact hK _ _ ⟨hR.other (by decide), rfl⟩)
              refine ⟨fun L ρ w' hR hC hL hd hk => ?_, ?_⟩
              · obtain ⟨k0, k1, -⟩ := hk
                have e0 : ρ (.tmp 67) = Value.slice (some ⟨g, 0, none⟩) n cap := k0
                have e1 : ρ (.tmp 70) = Value.int IntKind.i64 (i0 : Int) := k1
                clear k0 k1
                refine Par.val_k fun K hK => ?_
                unfold Par.val
                (go_simp; exact hK _ _ ⟨hR.other (by decide), rfl⟩)
              refine ⟨fun L ρ w' hR hC hL hd hk => ?_, ?_⟩
              · obtain ⟨k0, -⟩ := hk
                have e0 : ρ (.tmp 71) = Value.pointer (some ⟨g, i0, none⟩) := k0
                clear k0
                refine Par.val_k fun K hK => ?_
                unfold Par.val
                (obtain ⟨ii, hii, hq⟩ := hR.some 0 rfl (hC.notyet 21 19 hL (by kernel_rfl)); have cc := HCz0.out _ (RA.ext (hq.1 (by omega)) HR.out); go_simp; exact hK _ _ ⟨hR.other (by decide), rfl⟩)
              refine ⟨fun L ρ w' hR hC hL hd hk => ?_, ?_⟩
              · obtain ⟨k0, k1, -⟩ := hk
                have e0 : ρ (.tmp 53) = Value.slice (some ⟨g, 0, none⟩) n cap := k0
                have e1 : ρ (.tmp 56) = Value.int IntKind.i64 (i0 : Int) := k1
                clear k0 k1
                refine Par.val_k fun K hK => ?_
                unfold Par.val
                (go_simp; exact hK _ _ ⟨hR.other (by decide), rfl⟩)
              refine ⟨fun L ρ w' hR hC hL hd hk => ?_, ?_⟩
              · obtain ⟨k0, k1, -⟩ := hk
                have e0 : ρ (.tmp 73) = Value.pointer (some ⟨g, i0, none⟩) := k0
                have e1 : ρ (.tmp 66) = uv z1 := k1
                clear k0 k1
                refine Par.val_k fun K hK => ?_
                unfold Par.val
                (obtain ⟨hq, hs⟩ := hR.go 0 rfl hL (.inl rfl) (by decide); have hx := hq.1 (by decide); have hrow := RA.ext hx HR.out; obtain ⟨cc, ff⟩ := hrow.at (j := i0) (by omega); obtain ⟨hset, hfs⟩ := hrow.set i0 z1; have HSET := hid hset; have HFS := hid hfs; clear hset hfs hrow; go_simp; exact hK _ _ ⟨hs none _ _ ⟨fun h => absurd h (by decide), HSET.out, (Ext.fr hx).trans HFS.out⟩, trivial⟩)
              refine ⟨fun L ρ w' hR hC hL hd hk => ?_, ?_⟩
              · obtain ⟨k0, k1, -⟩ := hk
                have e0 : ρ (.tmp 57) = Value.slice (some ⟨g, 0, none⟩) n cap := k0
                have e1 : ρ (.tmp 60) = Value.int IntKind.i64 (i1 : Int) := k1
                clear k0 k1
                refine Par.val_k fun K hK => ?_
                unfold Par.val
                (go_simp; exact hK _ _ ⟨hR.other (by decide), rfl⟩)
              refine ⟨fun L ρ w' hR hC hL hd hk => ?_, ?_⟩
              · obtain ⟨k0, k1, -⟩ := hk
                have e0 : ρ (.tmp 74) = Value.pointer (some ⟨g, i1, none⟩) := k0
                have e1 : ρ (.tmp 72) = uv z0 := k1
                clear k0 k1
                refine Par.val_k fun K hK => ?_
                unfold Par.val
                (obtain ⟨hq, hs⟩ := hR.go 1 rfl hL (.inr ⟨21, rfl, hC.before 21 (i := 23) rfl hd (by kernel_rfl)⟩) (by decide); obtain ⟨hrow, hfr⟩ := hq.2; obtain ⟨cc, ff⟩ := hrow.at (j := i1) (by omega); obtain ⟨hset, hfs⟩ := hrow.set i1 z0; have HSET := hid hset; have HFS := hid hfs; have HFR := hid hfr; clear hset hfs hrow hfr; go_simp; exact hK _ _ ⟨hs none _ _ ⟨fun h => absurd h (by decide), HSET.out, HFR.out.trans HFS.out⟩, trivial⟩)
              trivial
            intro a' w' inv hR
            have q53 : a'.tmps.getD 53 undef = Value.slice (some ⟨g, 0, none⟩) n cap := inv.done 0 _ 53 rfl rfl rfl
            have q54 : a'.tmps.getD 54 undef = Value.int IntKind.i64 (first : Int) := inv.done 1 _ 54 rfl rfl rfl
            have q55 : a'.tmps.getD 55 undef = Value.int IntKind.i64 (root : Int) := inv.done 2 _ 55 rfl rfl rfl
            have q56 : a'.tmps.getD 56 undef = Value.int IntKind.i64 (i0 : Int) := inv.done 3 _ 56 rfl rfl rfl
            have q57 : a'.tmps.getD 57 undef = Value.slice (some ⟨g, 0, none⟩) n cap := inv.done 4 _ 57 rfl rfl rfl
            have q58 : a'.tmps.getD 58 undef = Value.int IntKind.i64 (first : Int) := inv.done 5 _ 58 rfl rfl rfl
            have q59 : a'.tmps.getD 59 undef = Value.int IntKind.i64 (c : Int) := inv.done 6 _ 59 rfl rfl rfl
            have q60 : a'.tmps.getD 60 undef = Value.int IntKind.i64 (i1 : Int) := inv.done 7 _ 60 rfl rfl rfl
            have q61 : a'.tmps.getD 61 undef = Value.slice (some ⟨g, 0, none⟩) n cap := inv.done 8 _ 61 rfl rfl rfl
            have q62 : a'.tmps.getD 62 undef = Value.int IntKind.i64 (first : Int) := inv.done 9 _ 62 rfl rfl rfl
            have q63 : a'.tmps.getD 63 undef = Value.int IntKind.i64 (c : Int) := inv.done 10 _ 63 rfl rfl rfl
            have q64 : a'.tmps.getD 64 undef = Value.int IntKind.i64 (i1 : Int) := inv.done 11 _ 64 rfl rfl rfl
            have q65 : a'.tmps.getD 65 undef = Value.pointer (some ⟨g, i1, none⟩) := inv.done 12 _ 65 rfl rfl rfl
            have q66 : a'.tmps.getD 66 undef = uv z1 := inv.done 13 _ 66 rfl rfl rfl
            have q67 : a'.tmps.getD 67 undef = Value.slice (some ⟨g, 0, none⟩) n cap := inv.done 14 _ 67 rfl rfl rfl
            have q68 : a'.tmps.getD 68 undef = Value.int IntKind.i64 (first : Int) := inv.done 15 _ 68 rfl rfl rfl
            have q69 : a'.tmps.getD 69 undef = Value.int IntKind.i64 (root : Int) := inv.done 16 _ 69 rfl rfl rfl
            have q70 : a'.tmps.getD 70 undef = Value.int IntKind.i64 (i0 : Int) := inv.done 17 _ 70 rfl rfl rfl
            have q71 : a'.tmps.getD 71 undef = Value.pointer (some ⟨g, i0, none⟩) := inv.done 18 _ 71 rfl rfl rfl
            have q72 : a'.tmps.getD 72 undef = uv z0 := inv.done 19 _ 72 rfl rfl rfl
            have q73 : a'.tmps.getD 73 undef = Value.pointer (some ⟨g, i0, none⟩) := inv.done 20 _ 73 rfl rfl rfl
            have q74 : a'.tmps.getD 74 undef = Value.pointer (some ⟨g, i1, none⟩) := inv.done 22 _ 74 rfl rfl rfl
            clear inv
            simp only [List.filterMap_cons, List.filterMap_nil, Par.putAll, Act.put, List.setIfInBounds_toArray, List.set_cons_succ, List.set_cons_zero, q53, q54, q55, q56, q57, q58, q59, q60, q61, q62, q63, q64, q65, q66, q67, q68, q69, q70, q71, q72, q73, q74]
            clear q53 q54 q55 q56 q57 q58 q59 q60 q61 q62 q63 q64 q65 q66 q67 q68 q69 q70 q71 q72 q73 q74
            obtain ⟨-, hrd, hf⟩ := Rg.Ch.fin hR (by decide) 2 rfl; have HRD := hid hrd; have HF4 := hid hf; clear hrd hf hR
            try clear a'
            have HR3 := hid (RA.swp Hz0 Hz1 HRD.out)
            have HF3 := hid (HF.out.trans HF4.out)
            clear HRD HF4 HR HF
            have HR := HR3
            have HF := HF3
            clear HR3 HF3
            go_wp2
            go_roundw
            case rel => exact ⟨c, swp d i0 i1, by omega, by first | rfl | go_num, HR, HO3, HF⟩
            case measure => simp [intOf]; have := HE.out; omega
      · have hlt2 : (c2 < hi) = False := by simp; omega
        clear hc hc2 hi0 hi1 hi2 hm
        go_wp2_with fail
        refine Par.wp_region_par (l := [_, _, _, _, _, _, _, _, _, _, _, _, _, _, _, _, _, _, _, _]) rfl Ext (Par.VL [Par.EQ (Value.int IntKind.i64 (c : Int)), Par.EQ (Value.int IntKind.i64 (c2 : Int)), Par.EQ (Value.int IntKind.i64 (hi : Int)), Par.EQ (Value.bool false), Par.EQ (Value.bool false), Par.EQ (undef), Par.EQ (undef), Par.EQ (undef), Par.EQ (undef), Par.EQ (undef), Par.EQ (undef), Par.EQ (undef), Par.EQ (undef), Par.EQ (undef), Par.EQ (undef), Par.EQ (undef), Par.EQ (undef), Par.EQ (undef), Par.EQ (undef), Par.EQ (Value.bool false)]) (by kernel_rfl) Ext.refl (fun _ _ _ h1 h2 => Ext.trans h1 h2) (Ext.draw _) (Par.VL_stab ?_) ?_ ?_
        · simp only [List.forall_mem_cons, List.not_mem_nil, false_implies, implies_true, and_true]
          refine ⟨fun _ _ _ _ h => h, fun _ _ _ _ h => h, fun _ _ _ _ h => h, fun _ _ _ _ h => h, fun _ _ _ _ h => h, fun _ _ _ _ h => h, fun _ _ _ _ h => h, fun _ _ _ _ h => h, fun _ _ _ _ h => h, fun _ _ _ _ h => h, fun _ _ _ _ h => h, fun _ _ _ _ h => h, fun _ _ _ _ h => h, fun _ _ _ _ h => h, fun _ _ _ _ h => h, fun _ _ _ _ h => h, fun _ _ _ _ h => h, fun _ _ _ _ h => h, fun _ _ _ _ h => h, fun _ _ _ _ h => h⟩
        · refine ⟨⟨fun _ _ => trivial, fun ρ w' hX hG hk => ?_⟩, ?_⟩
          · exact Par.val_of_run rfl ⟨Ext.refl _, hk.1⟩
          refine ⟨⟨fun _ _ => trivial, fun ρ w' hX hG hk => ?_⟩, ?_⟩
          · obtain ⟨k0, k1, -⟩ := hk
            have e0 : ρ (.tmp 17) = Value.int IntKind.i64 (c : Int) := k0
            have e1 : ρ (Operand.const (Value.int IntKind.i64 1)) = (Value.int IntKind.i64 1) := k1
            clear k0 k1
            refine Par.val_k fun K hK => ?_
            unfold Par.val
            (go_simp; exact hK _ _ ⟨Ext.refl _, rfl⟩)
          refine ⟨⟨fun _ _ => trivial, fun ρ w' hX hG hk => ?_⟩, ?_⟩
          · exact Par.val_of_run rfl ⟨Ext.refl _, hk.1⟩
          refine ⟨⟨fun _ _ => trivial, fun ρ w' hX hG hk => ?_⟩, ?_⟩
          · obtain ⟨k0, k1, -⟩ := hk
            have e0 : ρ (.tmp 18) = Value.int IntKind.i64 (c2 : Int) := k0
            have e1 : ρ (.tmp 19) = Value.int IntKind.i64 (hi : Int) := k1
            clear k0 k1
            refine Par.val_k fun K hK => ?_
            unfold Par.val
            (go_simp; exact hK _ _ ⟨Ext.refl _, rfl⟩)
          refine ⟨⟨fun _ _ => trivial, fun ρ w' hX hG hk => ?_⟩, ?_⟩
          · exact Par.val_of_run rfl ⟨Ext.refl _, hk.1⟩
          refine ⟨⟨fun _ _ u hu => .inr rfl, fun ρ w' hX hG hk => ?_⟩, ?_⟩
          · cases hG
          refine ⟨⟨fun _ _ u hu => .inr rfl, fun ρ w' hX hG hk => ?_⟩, ?_⟩
          · cases hG
          refine ⟨⟨fun _ _ u hu => .inr rfl, fun ρ w' hX hG hk => ?_⟩, ?_⟩
          · cases hG
          refine ⟨⟨fun _ _ u hu => .inr rfl, fun ρ w' hX hG hk => ?_⟩, ?_⟩
          · cases hG
          refine ⟨⟨fun _ _ u hu => .inr rfl, fun ρ w' hX hG hk => ?_⟩, ?_⟩
          · cases hG
          refine ⟨⟨fun _ _ u hu => .inr rfl, fun ρ w' hX hG hk => ?_⟩, ?_⟩
          · cases hG
          refine ⟨⟨fun _ _ u hu => .inr rfl, fun ρ w' hX hG hk => ?_⟩, ?_⟩
          · cases hG
          refine ⟨⟨fun _ _ u hu => .inr rfl, fun ρ w' hX hG hk => ?_⟩, ?_⟩
          · cases hG
          refine ⟨⟨fun _ _ u hu => .inr rfl, fun ρ w' hX hG hk => ?_⟩, ?_⟩
          · cases hG
          refine ⟨⟨fun _ _ u hu => .inr rfl, fun ρ w' hX hG hk => ?_⟩, ?_⟩
          · cases hG
          refine ⟨⟨fun _ _ u hu => .inr rfl, fun ρ w' hX hG hk => ?_⟩, ?_⟩
          · cases hG
          refine ⟨⟨fun _ _ u hu => .inr rfl, fun ρ w' hX hG hk => ?_⟩, ?_⟩
          · cases hG
          refine ⟨⟨fun _ _ u hu => .inr rfl, fun ρ w' hX hG hk => ?_⟩, ?_⟩
          · cases hG
          refine ⟨⟨fun _ _ u hu => .inr rfl, fun ρ w' hX hG hk => ?_⟩, ?_⟩
          · cases hG
          refine ⟨⟨fun _ _ => trivial, fun ρ w' hX hG hk => ?_⟩, ?_⟩
          · obtain ⟨k0, k1, k2, -⟩ := hk
            have e0 : ρ (.tmp 21) = Value.bool false := k0
            have e1 : ρ (.tmp 35) = undef := k1
            have e2 : ρ (Operand.const (Value.bool false)) = (Value.bool false) := k2
            clear k0 k1 k2
            refine Par.val_k fun K hK => ?_
            unfold Par.val
            (go_simp; exact hK _ _ ⟨Ext.refl _, rfl⟩)
          trivial
        intro a' w' inv
        have hX := inv.ext
        have q17 : a'.tmps.getD 17 undef = Value.int IntKind.i64 (c : Int) := inv.done 0 _ 17 rfl rfl rfl
        have q18 : a'.tmps.getD 18 undef = Value.int IntKind.i64 (c2 : Int) := inv.done 1 _ 18 rfl rfl rfl
        have q19 : a'.tmps.getD 19 undef = Value.int IntKind.i64 (hi : Int) := inv.done 2 _ 19 rfl rfl rfl
        have q20 : a'.tmps.getD 20 undef = Value.bool false := inv.done 3 _ 20 rfl rfl rfl
        have q21 : a'.tmps.getD 21 undef = Value.bool false := inv.done 4 _ 21 rfl rfl rfl
        have q22 : a'.tmps.getD 22 undef = undef := inv.done 5 _ 22 rfl rfl rfl
        have q23 : a'.tmps.getD 23 undef = undef := inv.done 6 _ 23 rfl rfl rfl
        have q24 : a'.tmps.getD 24 undef = undef := inv.done 7 _ 24 rfl rfl rfl
        have q25 : a'.tmps.getD 25 undef = undef := inv.done 8 _ 25 rfl rfl rfl
        have q26 : a'.tmps.getD 26 undef = undef := inv.done 9 _ 26 rfl rfl rfl
        have q27 : a'.tmps.getD 27 undef = undef := inv.done 10 _ 27 rfl rfl rfl
        have q28 : a'.tmps.getD 28 undef = undef := inv.done 11 _ 28 rfl rfl rfl
        have q29 : a'.tmps.getD 29 undef = undef := inv.done 12 _ 29 rfl rfl rfl
        have q30 : a'.tmps.getD 30 undef = undef := inv.done 13 _ 30 rfl rfl rfl
        have q31 : a'.tmps.getD 31 undef = undef := inv.done 14 _ 31 rfl rfl rfl
        have q32 : a'.tmps.getD 32 undef = undef := inv.done 15 _ 32 rfl rfl rfl
        have q33 : a'.tmps.getD 33 undef = undef := inv.done 16 _ 33 rfl rfl rfl
        have q34 : a'.tmps.getD 34 undef = undef := inv.done 17 _ 34 rfl rfl rfl
        have q35 : a'.tmps.getD 35 undef = undef := inv.done 18 _ 35 rfl rfl rfl
        have q36 : a'.tmps.getD 36 undef = Value.bool false := inv.done 19 _ 36 rfl rfl rfl
        clear inv
        simp only [List.filterMap_cons, List.filterMap_nil, Par.putAll, Act.put, List.setIfInBounds_toArray, List.set_cons_succ, List.set_cons_zero, q17, q18, q19, q20, q21, q22, q23, q24, q25, q26, q27, q28, q29, q30, q31, q32, q33, q34, q35, q36]
        clear q17 q18 q19 q20 q21 q22 q23 q24 q25 q26 q27 q28 q29 q30 q31 q32 q33 q34 q35 q36
        clear a'
        have HF2 := hid (HF.out.trans (Ext.fr hX))
        have HR2 := hid (RA.ext hX HR.out)
        clear hX HF HR
        have HF := HF2
        have HR := HR2
        clear HF2 HR2
        obtain ⟨b1, Hb1⟩ : ∃ b, Hid (ltU z0 z1 = b) := ⟨_, hid rfl⟩
        have HIN : Hid (siftDown ltU hi first root d = if b1 then siftDown ltU hi first c (swp d i0 i1) else d) := hid (by rw [sift_left d HE.out.1 HE.out.2.2.1 HE.out.2.2.2.1 hci (fun hh => absurd hh (by have := HE.out.2.1; omega)), Hz0.out, Hz1.out, Hb1.out])
        go_wp2_with fail
        refine Par.wp_region_par (l := [_, _, _, _, _, _, _, _, _, _, _, _, _, _]) rfl Ext (Par.VL [Par.EQ (Value.slice (some ⟨g, 0, none⟩) n cap), Par.EQ (Value.int IntKind.i64 (first : Int)), Par.EQ (Value.int IntKind.i64 (root : Int)), Par.EQ (Value.int IntKind.i64 (i0 : Int)), Par.EQ (Value.pointer (some ⟨g, i0, none⟩)), Par.EQ (uv z0), Par.EQ (Value.slice (some ⟨g, 0, none⟩) n cap), Par.EQ (Value.int IntKind.i64 (first : Int)), Par.EQ (Value.int IntKind.i64 (c : Int)), Par.EQ (Value.int IntKind.i64 (i1 : Int)), Par.EQ (Value.pointer (some ⟨g, i1, none⟩)), Par.EQ (uv z1), Par.EQ (Value.bool b1), Par.EQ (Value.bool (!b1))]) (by kernel_rfl) Ext.refl (fun _ _ _ h1 h2 => Ext.trans h1 h2) (Ext.draw _) (Par.VL_stab ?_) ?_ ?_
        · simp only [List.forall_mem_cons, List.not_mem_nil, false_implies, implies_true, and_true]
          refine ⟨fun _ _ _ _ h => h, fun _ _ _ _ h => h, fun _ _ _ _ h => h, fun _ _ _ _ h => h, fun _ _ _ _ h => h, fun _ _ _ _ h => h, fun _ _ _ _ h => h, fun _ _ _ _ h => h, fun _ _ _ _ h => h, fun _ _ _ _ h => h, fun _ _ _ _ h => h, fun _ _ _ _ h => h, fun _ _ _ _ h => h, fun _ _ _ _ h => h⟩
        · refine ⟨⟨fun _ _ => trivial, fun ρ w' hX hG hk => ?_⟩, ?_⟩
          · exact Par.val_of_run rfl ⟨Ext.refl _, hk.1⟩
          refine ⟨⟨fun _ _ => trivial, fun ρ w' hX hG hk => ?_⟩, ?_⟩
          · exact Par.val_of_run rfl ⟨Ext.refl _, hk.1⟩
          refine ⟨⟨fun _ _ => trivial, fun ρ w' hX hG hk => ?_⟩, ?_⟩
          · exact Par.val_of_run rfl ⟨Ext.refl _, hk.1⟩
          refine ⟨⟨fun _ _ => trivial, fun ρ w' hX hG hk => ?_⟩, ?_⟩
          · obtain ⟨k0, k1, -⟩ := hk
            have e0 : ρ (.tmp 40) = Value.int IntKind.i64 (first : Int) := k0
            have e1 : ρ (.tmp 41) = Value.int IntKind.i64 (root : Int) := k1
            clear k0 k1
            refine Par.val_k fun K hK => ?_
            unfold Par.val
            (go_simp; exact hK _ _ ⟨Ext.refl _, rfl⟩)
          refine ⟨⟨fun _ _ => trivial, fun ρ w' hX hG hk => ?_⟩, ?_⟩
          · obtain ⟨k0, k1, -⟩ := hk
            have e0 : ρ (.tmp 39) = Value.slice (some ⟨g, 0, none⟩) n cap := k0
            have e1 : ρ (.tmp 42) = Value.int IntKind.i64 (i0 : Int) := k1
            clear k0 k1
            refine Par.val_k fun K hK => ?_
            unfold Par.val
            (go_simp; exact hK _ _ ⟨Ext.refl _, rfl⟩)
          refine ⟨⟨fun _ _ => trivial, fun ρ w' hX hG hk => ?_⟩, ?_⟩
          · obtain ⟨k0, -⟩ := hk
            have e0 : ρ (.tmp 43) = Value.pointer (some ⟨g, i0, none⟩) := k0
            clear k0
            refine Par.val_k fun K hK => ?_
            unfold Par.val
            (have cc := HCz0.out _ (RA.ext hX HR.out); go_simp; exact hK _ _ ⟨Ext.refl _, rfl⟩)
          refine ⟨⟨fun _ _ => trivial, fun ρ w' hX hG hk => ?_⟩, ?_⟩
          · exact Par.val_of_run rfl ⟨Ext.refl _, hk.1⟩
          refine ⟨⟨fun _ _ => trivial, fun ρ w' hX hG hk => ?_⟩, ?_⟩
          · exact Par.val_of_run rfl ⟨Ext.refl _, hk.1⟩
          refine ⟨⟨fun _ _ => trivial, fun ρ w' hX hG hk => ?_⟩, ?_⟩
          · exact Par.val_of_run rfl ⟨Ext.refl _, hk.1⟩
          refine ⟨⟨fun _ _ => trivial, fun ρ w' hX hG hk => ?_⟩, ?_⟩
          · obtain ⟨k0, k1, -⟩ := hk
            have e0 : ρ (.tmp 46) = Value.int IntKind.i64 (first : Int) := k0
            have e1 : ρ (.tmp 47) = Value.int IntKind.i64 (c : Int) := k1
            clear k0 k1
            refine Par.val_k fun K hK => ?_
            unfold Par.val
            (go_simp; exact hK _ _ ⟨Ext.refl _, rfl⟩)
          refine ⟨⟨fun _ _ => trivial, fun ρ w' hX hG hk => ?_⟩, ?_⟩
          · obtain ⟨k0, k1, -⟩ := hk
            have e0 : ρ (.tmp 45) = Value.slice (some ⟨g, 0, none⟩) n cap := k0
            have e1 : ρ (.tmp 48) = Value.int IntKind.i64 (i1 : Int) := k1
            clear k0 k1
            refine Par.val_k fun K hK => ?_
            unfold Par.val
            (go_simp; exact hK _ _ ⟨Ext.refl _, rfl⟩)
          refine ⟨⟨fun _ _ => trivial, fun ρ w' hX hG hk => ?_⟩, ?_⟩
          · obtain ⟨k0, -⟩ := hk
            have e0 : ρ (.tmp 49) = Value.pointer (some ⟨g, i1, none⟩) := k0
            clear k0
            refine Par.val_k fun K hK => ?_
            unfold Par.val
            (have cc := HCz1.out _ (RA.ext hX HR.out); go_simp; exact hK _ _ ⟨Ext.refl _, rfl⟩)
          refine ⟨⟨fun _ _ => trivial, fun ρ w' hX hG hk => ?_⟩, ?_⟩
          · obtain ⟨k0, k1, k2, -⟩ := hk
            have e0 := k0
            have e1 : ρ (.tmp 44) = uv z0 := k1
            have e2 : ρ (.tmp 50) = uv z1 := k2
            clear k0 k1 k2
            refine Par.val_k fun K hK => ?_
            unfold Par.val
            refine Par.val_call Tryd.func46 (by kernel_rfl) rfl e0 ?_
            simp only [List.map_toArray, List.map_cons, List.map_nil, e1, e2]
            refine (lessU_any z0 z1 _).mono ?_
            rintro e w2 ⟨rfl, rfl⟩
            exact ⟨_, rfl, hK _ _ ⟨Ext.refl _, (congrArg Value.bool Hb1.out)⟩⟩
          refine ⟨⟨fun _ _ => trivial, fun ρ w' hX hG hk => ?_⟩, ?_⟩
          · obtain ⟨k0, -⟩ := hk
            have e0 : ρ (.tmp 51) = Value.bool b1 := k0
            clear k0
            refine Par.val_k fun K hK => ?_
            unfold Par.val
            (go_simp; exact hK _ _ ⟨Ext.refl _, rfl⟩)
          trivial
        intro a' w' inv
        have hX := inv.ext
        have q39 : a'.tmps.getD 39 undef = Value.slice (some ⟨g, 0, none⟩) n cap := inv.done 0 _ 39 rfl rfl rfl
        have q40 : a'.tmps.getD 40 undef = Value.int IntKind.i64 (first : Int) := inv.done 1 _ 40 rfl rfl rfl
        have q41 : a'.tmps.getD 41 undef = Value.int IntKind.i64 (root : Int) := inv.done 2 _ 41 rfl rfl rfl
        have q42 : a'.tmps.getD 42 undef = Value.int IntKind.i64 (i0 : Int) := inv.done 3 _ 42 rfl rfl rfl
        have q43 : a'.tmps.getD 43 undef = Value.pointer (some ⟨g, i0, none⟩) := inv.done 4 _ 43 rfl rfl rfl
        have q44 : a'.tmps.getD 44 undef = uv z0 := inv.done 5 _ 44 rfl rfl rfl
        have q45 : a'.tmps.getD 45 undef = Value.slice (some ⟨g, 0, none⟩) n cap := inv.done 6 _ 45 rfl rfl rfl
        have q46 : a'.tmps.getD 46 undef = Value.int IntKind.i64 (first : Int) := inv.done 7 _ 46 rfl rfl rfl
        have q47 : a'.tmps.getD 47 undef = Value.int IntKind.i64 (c : Int) := inv.done 8 _ 47 rfl rfl rfl
        have q48 : a'.tmps.getD 48 undef = Value.int IntKind.i64 (i1 : Int) := inv.done 9 _ 48 rfl rfl rfl
        have q49 : a'.tmps.getD 49 undef = Value.pointer (some ⟨g, i1, none⟩) := inv.done 10 _ 49 rfl rfl rfl
        have q50 : a'.tmps.getD 50 undef = uv z1 := inv.done 11 _ 50 rfl rfl rfl
        have q51 : a'.tmps.getD 51 undef = Value.bool b1 := inv.done 12 _ 51 rfl rfl rfl
        have q52 : a'.tmps.getD 52 undef = Value.bool (!b1) := inv.done 13 _ 52 rfl rfl rfl
        clear inv
        simp only [List.filterMap_cons, List.filterMap_nil, Par.putAll, Act.put, List.setIfInBounds_toArray, List.set_cons_succ, List.set_cons_zero, q39, q40, q41, q42, q43, q44, q45, q46, q47, q48, q49, q50, q51, q52]
        clear q39 q40 q41 q42 q43 q44 q45 q46 q47 q48 q49 q50 q51 q52
        clear a'
        have HF2 := hid (HF.out.trans (Ext.fr hX))
        have HR2 := hid (RA.ext hX HR.out)
        clear hX HF HR
        have HF := HF2
        have HR := HR2
        clear HF2 HR2
        cases b1
        case false =>
          have HO3 : Hid (d = D) := hid (by have := HO.out; rw [HIN.out] at this; simpa using this)
          go_wp2
          go_returns
          exact ⟨⟨_, rfl⟩, by have := HR.out; rw [HO3.out] at this; exact this, HF.out⟩
        case true =>
          have HO3 : Hid (siftDown ltU hi first c (swp d i0 i1) = D) := hid (by have := HO.out; rw [HIN.out] at this; simpa using this)
          go_wp2_with fail
          refine ParE.wp_region_e (l := [_, _, _, _, _, _, _, _, _, _, _, _, _, _, _, _, _, _, _, _, _, _, _, _]) rfl (Rg.Ch [21, 23] [] (SwV _ B g n cap i0 i1 z0 z1 d)) (ParC.VC [ParC.EQ (Value.slice (some ⟨g, 0, none⟩) n cap), ParC.EQ (Value.int IntKind.i64 (first : Int)), ParC.EQ (Value.int IntKind.i64 (root : Int)), ParC.EQ (Value.int IntKind.i64 (i0 : Int)), ParC.EQ (Value.slice (some ⟨g, 0, none⟩) n cap), ParC.EQ (Value.int IntKind.i64 (first : Int)), ParC.EQ (Value.int IntKind.i64 (c : Int)), ParC.EQ (Value.int IntKind.i64 (i1 : Int)), ParC.EQ (Value.slice (some ⟨g, 0, none⟩) n cap), ParC.EQ (Value.int IntKind.i64 (first : Int)), ParC.EQ (Value.int IntKind.i64 (c : Int)), ParC.EQ (Value.int IntKind.i64 (i1 : Int)), ParC.EQ (Value.pointer (some ⟨g, i1, none⟩)), ParC.EQ (uv z1), ParC.EQ (Value.slice (some ⟨g, 0, none⟩) n cap), ParC.EQ (Value.int IntKind.i64 (first : Int)), ParC.EQ (Value.int IntKind.i64 (root : Int)), ParC.EQ (Value.int IntKind.i64 (i0 : Int)), ParC.EQ (Value.pointer (some ⟨g, i0, none⟩)), ParC.EQ (uv z0), ParC.EQ (Value.pointer (some ⟨g, i0, none⟩)), fun _ => True, ParC.EQ (Value.pointer (some ⟨g, i1, none⟩)), fun _ => True]) (by kernel_rfl) (by kernel_rfl) (Rg.Ch.start ⟨fun _ => Ext.draw _, trivial⟩) ?_ ?_
          · refine ⟨fun L ρ w' hR hC hL hd hk => ?_, ?_⟩
            · exact Par.val_of_run rfl ⟨hR.other (by decide), hk.1⟩
            refine ⟨fun L ρ w' hR hC hL hd hk => ?_, ?_⟩
            · exact Par.val_of_run rfl ⟨hR.other (by decide), hk.1⟩
            refine ⟨fun L ρ w' hR hC hL hd hk => ?_, ?_⟩
            · exact Par.val_of_run rfl ⟨hR.other (by decide), hk.1⟩
            refine ⟨fun L ρ w' hR hC hL hd hk => ?_, ?_⟩
            · obtain ⟨k0, k1, -⟩ := hk
              have e0 : ρ (.tmp 54) = Value.int IntKind.i64 (first : Int) := k0
              have e1 : ρ (.tmp 55) = Value.int IntKind.i64 (root : Int) := k1
              clear k0 k1
              refine Par.val_k fun K hK => ?_
              unfold Par.val
              (go_simp; exact hK _ _ ⟨hR.other (by decide), rfl⟩)
            refine ⟨fun L ρ w' hR hC hL hd hk => ?_, ?_⟩
            · exact Par.val_of_run rfl ⟨hR.other (by decide), hk.1⟩
            refine ⟨fun L ρ w' hR hC hL hd hk => ?_, ?_⟩
            · exact Par.val_of_run rfl ⟨hR.other (by decide), hk.1⟩
            refine ⟨fun L ρ w' hR hC hL hd hk => ?_, ?_⟩
            · exact Par.val_of_run rfl ⟨hR.other (by decide), hk.1⟩
            refine ⟨fun L ρ w' hR hC hL hd hk => ?_, ?_⟩
            · obtain ⟨k0, k1, -⟩ := hk
              have e0 : ρ (.tmp 58) = Value.int IntKind.i64 (first : Int) := k0
              have e1 : ρ (.tmp 59) = Value.int IntKind.i64 (c : Int) := k1
              clear k0 k1
              refine Par.val_k fun K hK => ?_
              unfold Par.val
              (go_simp; exact hK _ _ ⟨hR.other (by decide), rfl⟩)
            refine ⟨fun L ρ w' hR hC hL hd hk => ?_, ?_⟩
            · exact Par.val_of_run rfl ⟨hR.other (by decide), hk.1⟩
            refine ⟨fun L ρ w' hR hC hL hd hk => ?_, ?_⟩
            · exact Par.val_of_run rfl ⟨hR.other (by decide), hk.1⟩
            refine ⟨fun L ρ w' hR hC hL hd hk => ?_, ?_⟩
            · exact Par.val_of_run rfl ⟨hR.other (by decide), hk.1⟩
            refine ⟨fun L ρ w' hR hC hL hd hk => ?_, ?_⟩
            · obtain ⟨k0, k1, -⟩ := hk
              have e0 : ρ (.tmp 62) = Value.int IntKind.i64 (first : Int) := k0
              have e1 : ρ (.tmp 63) = Value.int IntKind.i64 (c : Int) := k1
              clear k0 k1
              refine Par.val_k fun K hK => ?_
              unfold Par.val
              (go_simp; exact hK _ _ ⟨hR.other (by decide), rfl⟩)
            refine ⟨fun L ρ w' hR hC hL hd hk => ?_, ?_⟩
            · obtain ⟨k0, k1, -⟩ := hk
              have e0 : ρ (.tmp 61) = Value.slice (some ⟨g, 0, none⟩) n cap := k0
              have e1 : ρ (.tmp 64) = Value.int IntKind.i64 (i1 : Int) := k1
              clear k0 k1
              refine Par.val_k fun K hK => ?_
              unfold Par.val
              (go_simp; exact hK _ _ ⟨hR.other (by decide), rfl⟩)
            refine ⟨fun L ρ w' hR hC hL hd hk => ?_, ?_⟩
            · obtain ⟨k0, -⟩ := hk
              have e0 : ρ (.tmp 65) = Value.pointer (some ⟨g, i1, none⟩) := k0
              clear k0
              refine Par.val_k fun K hK => ?_
              unfold Par.val
              (obtain ⟨ii, hii, hq⟩ := hR.some 0 rfl (hC.notyet 21 13 hL (by kernel_rfl)); have cc := HCz1.out _ (RA.ext (hq.1 (by omega)) HR.out); go_simp; exact hK _ _ ⟨hR.other (by decide), rfl⟩)
            refine ⟨fun L ρ w' hR hC hL hd hk => ?_, ?_⟩
            · exact Par.val_of_run rfl ⟨hR.other (by decide), hk.1⟩
            refine ⟨fun L ρ w' hR hC hL hd hk => ?_, ?_⟩
            · exact Par.val_of_run rfl ⟨hR.other (by decide), hk.1⟩
            refine ⟨fun L ρ w' hR hC hL hd hk => ?_, ?_⟩
            · exact Par.val_of_run rfl ⟨hR.other (by decide), hk.1⟩
            refine ⟨fun L ρ w' hR hC hL hd hk => ?_, ?_⟩
            · obtain ⟨k0, k1, -⟩ := hk
              have e0 : ρ (.tmp 68) = Value.int IntKind.i64 (first : Int) := k0
              have e1 : ρ (.tmp 69) = Value.int IntKind.i64 (root : Int) := k1
              clear k0 k1
              refine Par.val_k fun K hK => ?_
              unfold Par.val
              (go_simp; exact hK _ _ ⟨hR.other (by decide), rfl⟩)
            refine ⟨fun L ρ w' hR hC hL hd hk => ?_, ?_⟩
            · obtain ⟨k0, k1, -⟩ := hk
              have e0 : ρ (.tmp 67) = Value.slice (some ⟨g, 0, none⟩) n cap := k0
              have e1 : ρ (.tmp 70) = Value.int IntKind.i64 (i0 : Int) := k1
              clear k0 k1
              refine Par.val_k fun K hK => ?_
              unfold Par.val
              (go_simp; exact hK _ _ ⟨hR.other (by decide), rfl⟩)
            refine ⟨fun L ρ w' hR hC hL hd hk => ?_, ?_⟩
            · obtain ⟨k0, -⟩ := hk
              have e0 : ρ (.tmp 71) = Value.pointer (some ⟨g, i0, none⟩) := k0
              clear k0
              refine Par.val_k fun K hK => ?_
              unfold Par.val
              (obtain ⟨ii, hii, hq⟩ := hR.some 0 rfl (hC.notyet 21 19 hL (by kernel_rfl)); have cc := HCz0.out _ (RA.ext (hq.1 (by omega)) HR.out); go_simp; exact hK _ _ ⟨hR.other (by decide), rfl⟩)
            refine ⟨fun L ρ w' hR hC hL hd hk => ?_, ?_⟩
            · obtain ⟨k0, k1, -⟩ := hk
              have e0 : ρ (.tmp 53) = Value.slice (some ⟨g, 0, none⟩) n cap := k0
              have e1 : ρ (.tmp 56) = Value.int IntKind.i64 (i0 : Int) := k1
              clear k0 k1
              refine Par.val_k fun K hK => ?_
              unfold Par.val
              (go_simp; exact hK _ _ ⟨hR.other (by decide), rfl⟩)
            refine ⟨fun L ρ w' hR hC hL hd hk => ?_, ?_⟩
            · obtain ⟨k0, k1, -⟩ := hk
              have e0 : ρ (.tmp 73) = Value.pointer (some ⟨g, i0, none⟩) := k0
              have e1 : ρ (.tmp 66) = uv z1 := k1
              clear k0 k1
              refine Par.val_k fun K hK => ?_
              unfold Par.val
              (obtain ⟨hq, hs⟩ := hR.go 0 rfl hL (.inl rfl) (by decide); have hx := hq.1 (by decide); have hrow := RA.ext hx HR.out; obtain ⟨cc, ff⟩ := hrow.at (j := i0) (by omega); obtain ⟨hset, hfs⟩ := hrow.set i0 z1; have HSET := hid hset; have HFS := hid hfs; clear hset hfs hrow; go_simp; exact hK _ _ ⟨hs none _ _ ⟨fun h => absurd h (by decide), HSET.out, (Ext.fr hx).trans HFS.out⟩, trivial⟩)
            refine ⟨fun L ρ w' hR hC hL hd hk => ?_, ?_⟩
            · obtain ⟨k0, k1, -⟩ := hk
              have e0 : ρ (.tmp 57) = Value.slice (some ⟨g, 0, none⟩) n cap := k0
              have e1 : ρ (.tmp 60) = Value.int IntKind.i64 (i1 : Int) := k1
              clear k0 k1
              refine Par.val_k fun K hK => ?_
              unfold Par.val
              (go_simp; exact hK _ _ ⟨hR.other (by decide), rfl⟩)
            refine ⟨fun L ρ w' hR hC hL hd hk => ?_, ?_⟩
            · obtain ⟨k0, k1, -⟩ := hk
              have e0 : ρ (.tmp 74) = Value.pointer (some ⟨g, i1, none⟩) := k0
              have e1 : ρ (.tmp 72) = uv z0 := k1
              clear k0 k1
              refine Par.val_k fun K hK => ?_
              unfold Par.val
              (obtain ⟨hq, hs⟩ := hR.go 1 rfl hL (.inr ⟨21, rfl, hC.before 21 (i := 23) rfl hd (by kernel_rfl)⟩) (by decide); obtain ⟨hrow, hfr⟩ := hq.2; obtain ⟨cc, ff⟩ := hrow.at (j := i1) (by omega); obtain ⟨hset, hfs⟩ := hrow.set i1 z0; have HSET := hid hset; have HFS := hid hfs; have HFR := hid hfr; clear hset hfs hrow hfr; go_simp; exact hK _ _ ⟨hs none _ _ ⟨fun h => absurd h (by decide), HSET.out, HFR.out.trans HFS.out⟩, trivial⟩)
            trivial
          intro a' w' inv hR
          have q53 : a'.tmps.getD 53 undef = Value.slice (some ⟨g, 0, none⟩) n cap := inv.done 0 _ 53 rfl rfl rfl
          have q54 : a'.tmps.getD 54 undef = Value.int IntKind.i64 (first : Int) := inv.done 1 _ 54 rfl rfl rfl
          have q55 : a'.tmps.getD 55 undef = Value.int IntKind.i64 (root : Int) := inv.done 2 _ 55 rfl rfl rfl
          have q56 : a'.tmps.getD 56 undef = Value.int IntKind.i64 (i0 : Int) := inv.done 3 _ 56 rfl rfl rfl
          have q57 : a'.tmps.getD 57 undef = Value.slice (some ⟨g, 0, none⟩) n cap := inv.done 4 _ 57 rfl rfl rfl
          have q58 : a'.tmps.getD 58 undef = Value.int IntKind.i64 (first : Int) := inv.done 5 _ 58 rfl rfl rfl
          have q59 : a'.tmps.getD 59 undef = Value.int IntKind.i64 (c : Int) := inv.done 6 _ 59 rfl rfl rfl
          have q60 : a'.tmps.getD 60 undef = Value.int IntKind.i64 (i1 : Int) := inv.done 7 _ 60 rfl rfl rfl
          have q61 : a'.tmps.getD 61 undef = Value.slice (some ⟨g, 0, none⟩) n cap := inv.done 8 _ 61 rfl rfl rfl
          have q62 : a'.tmps.getD 62 undef = Value.int IntKind.i64 (first : Int) := inv.done 9 _ 62 rfl rfl rfl
          have q63 : a'.tmps.getD 63 undef = Value.int IntKind.i64 (c : Int) := inv.done 10 _ 63 rfl rfl rfl
          have q64 : a'.tmps.getD 64 undef = Value.int IntKind.i64 (i1 : Int) := inv.done 11 _ 64 rfl rfl rfl
          have q65 : a'.tmps.getD 65 undef = Value.pointer (some ⟨g, i1, none⟩) := inv.done 12 _ 65 rfl rfl rfl
          have q66 : a'.tmps.getD 66 undef = uv z1 := inv.done 13 _ 66 rfl rfl rfl
          have q67 : a'.tmps.getD 67 undef = Value.slice (some ⟨g, 0, none⟩) n cap := inv.done 14 _ 67 rfl rfl rfl
          have q68 : a'.tmps.getD 68 undef = Value.int IntKind.i64 (first : Int) := inv.done 15 _ 68 rfl rfl rfl
          have q69 : a'.tmps.getD 69 undef = Value.int IntKind.i64 (root : Int) := inv.done 16 _ 69 rfl rfl rfl
          have q70 : a'.tmps.getD 70 undef = Value.int IntKind.i64 (i0 : Int) := inv.done 17 _ 70 rfl rfl rfl
          have q71 : a'.tmps.getD 71 undef = Value.pointer (some ⟨g, i0, none⟩) := inv.done 18 _ 71 rfl rfl rfl
          have q72 : a'.tmps.getD 72 undef = uv z0 := inv.done 19 _ 72 rfl rfl rfl
          have q73 : a'.tmps.getD 73 undef = Value.pointer (some ⟨g, i0, none⟩) := inv.done 20 _ 73 rfl rfl rfl
          have q74 : a'.tmps.getD 74 undef = Value.pointer (some ⟨g, i1, none⟩) := inv.done 22 _ 74 rfl rfl rfl
          clear inv
          simp only [List.filterMap_cons, List.filterMap_nil, Par.putAll, Act.put, List.setIfInBounds_toArray, List.set_cons_succ, List.set_cons_zero, q53, q54, q55, q56, q57, q58, q59, q60, q61, q62, q63, q64, q65, q66, q67, q68, q69, q70, q71, q72, q73, q74]
          clear q53 q54 q55 q56 q57 q58 q59 q60 q61 q62 q63 q64 q65 q66 q67 q68 q69 q70 q71 q72 q73 q74
          obtain ⟨-, hrd, hf⟩ := Rg.Ch.fin hR (by decide) 2 rfl; have HRD := hid hrd; have HF4 := hid hf; clear hrd hf hR
          try clear a'
          have HR3 := hid (RA.swp Hz0 Hz1 HRD.out)
          have HF3 := hid (HF.out.trans HF4.out)
          clear HRD HF4 HR HF
          have HR := HR3
          have HF := HF3
          clear HR3 HF3
          go_wp2
          go_roundw
          case rel => exact ⟨c, swp d i0 i1, by omega, by first | rfl | go_num, HR, HO3, HF⟩
          case measure => simp [intOf]; have := HE.out; omega
    · have HO2 : Hid (d = D) := hid (by have := HO.out; rw [sift_stop _ _ _ _ (by omega)] at this; exact this)
      clear hc hm
      go_wp2
      go_returns
      exact ⟨⟨_, rfl⟩, by have := HR.out; rw [HO2.out] at this; exact this, HF.out⟩
end Go.Proofs.YtpbmbjdiilnaeaaDoor
