/- insertionSort of a part of a row of numbers. -/
import Derived.Test.YtpbmbjdiilnaeaaDoorSrtV
set_option linter.unusedSimpArgs false
set_option linter.unusedVariables false
namespace Go.Proofs.YtpbmbjdiilnaeaaDoor
open Go Go.RowKit Go.Tum Go.ChangeMaps Go.Sort
open Go.ParB (upd Lof)
open Go.ParE (putS slotsR slots Closed)

theorem insInner_stop (a j : Nat) (d : Array UInt64) (h : j ≤ a) : insInner ltU a j d = d := by
  cases j with
  | zero => rfl
  | succ j => rw [insInner, if_neg (by simp; omega)]
theorem insInner_go (a j q : Nat) (d : Array UInt64) (h : a < j) (hq : q + 1 = j) : insInner ltU a j d = if ltU d[j]! d[q]! then insInner ltU a q (swp d j q) else d := by
  subst hq
  rw [insInner]
  have : decide (q + 1 > a) = true := by simp; omega
  simp only [this, Bool.true_and]
set_option maxRecDepth 100000 in
set_option maxHeartbeats 2000000 in
theorem insV_any {B : Nat} {w : World} (g n cap a b : Nat) (d : Array UInt64) (h : RA w B g n cap d) (hab : a ≤ b) (hbn : b ≤ n) (hbig : n ≤ 4611686018427387904) :
    Calls Tryd.prog 40 #[.slice (some ⟨g, 0, none⟩) n cap, .int .i64 (a : Int), .int .i64 (b : Int)] w fun e w' =>
      (∃ u, e = .returned u) ∧ RA w' B g n cap (insertionSort ltU d a b) ∧ Fr [g] w w' := by
  obtain ⟨D, hD⟩ : ∃ D, insertionSort ltU d a b = D := ⟨_, rfl⟩
  have HD : Hid (insOuter ltU a b (a + 1) d = D) := hid hD
  rw [hD]
  have H0 := hid h
  obtain ⟨hcap1, hcap2⟩ := h.bound
  clear h hD
  have hwa : IntKind.i64.wrap ((a : Int) + 1) = ((a + 1 : Nat) : Int) := i64v _ (by omega) (by omega)
  go_enter Tryd.func40, Tryd.ntmps40
  go_wp2
  go_loopw [6] (fun iv wr => ∃ (k : Nat) (e : Array UInt64), a + 1 ≤ k ∧ k ≤ b + 1 ∧ iv = .int .i64 (k : Int) ∧ Hid (RA wr B g n cap e) ∧ Hid (insOuter ltU a b k e = D) ∧ Hid (Fr [g] w wr)) (fun iv _ => b + 1 - (intOf iv).toNat)
  case atStart => exact ⟨a + 1, d, by omega, by omega, by first | rfl | go_num, H0, HD, hid (Fr.refl _ _)⟩
  case round =>
    clear H0 HD hwa
    obtain ⟨k, d, hk1, hk2, rfl, HR, HO, HF⟩ := hrel
    have hwk : IntKind.i64.wrap ((k : Int) + 1) = ((k + 1 : Nat) : Int) := i64v _ (by omega) (by omega)
    by_cases hlt : k < b
    · have hki : (k : Int) < b := by omega
      have HK := hid (And.intro hlt hk1)
      have HO2 : Hid (insOuter ltU a b (k + 1) (insInner ltU a k d) = D) := hid (by have := HO.out; rw [insOuter, if_pos hlt] at this; exact this)
      go_wp2
      go_loopw [7] (fun jv w3 => ∃ (j : Nat) (e : Array UInt64), a ≤ j ∧ j ≤ k ∧ jv = .int .i64 (j : Int) ∧ Hid (RA w3 B g n cap e) ∧ Hid (insOuter ltU a b (k + 1) (insInner ltU a j e) = D) ∧ Hid (Fr [g] w w3)) (fun jv _ => (intOf jv).toNat)
      case atStart => exact ⟨k, d, by omega, by omega, rfl, HR, HO2, HF⟩
      case round =>
        clear HO2 HR HO HF
        obtain ⟨j, d, haj, hj, rfl, HR, HO, HF⟩ := hrel
        rcases Nat.lt_or_ge a j with hajl | hajg
        · obtain ⟨q, hq⟩ : ∃ q, q + 1 = j := ⟨j - 1, by omega⟩
          have hcmp : decide ((a : Int) < (j : Int)) = true := by simp; omega
          have hwq : IntKind.i64.wrap ((j : Int) - 1) = (q : Int) := i64v _ (by omega) (by omega)
          have hjn : j < n := by omega
          have hjn2 : (j : Int) < n := by omega
          have hqn : q < n := by omega
          have hqn2 : (q : Int) < n := by omega
          obtain ⟨zj, Hzj, HCzj⟩ := cellV (B := B) (g := g) (n := n) (cap := cap) d j (by omega)
          obtain ⟨zq, Hzq, HCzq⟩ := cellV (B := B) (g := g) (n := n) (cap := cap) d q (by omega)
          obtain ⟨b0, Hb0⟩ : ∃ b, Hid (ltU zj zq = b) := ⟨_, hid rfl⟩
          have HIN : Hid (insInner ltU a j d = if b0 then insInner ltU a q (swp d j q) else d) := hid (by rw [insInner_go a j q d hajl hq, Hzj.out, Hzq.out, Hb0.out])
          have HQ := hid hq
          clear hq
          go_wp2_with fail
          refine Par.wp_region_par (l := [_, _, _, _, _, _, _, _, _, _, _, _, _, _, _]) rfl Ext (Par.VL [Par.EQ (Value.int IntKind.i64 (j : Int)), Par.EQ (Value.int IntKind.i64 (a : Int)), Par.EQ (Value.bool true), Par.EQ (Value.bool true), Par.EQ (Value.slice (some ⟨g, 0, none⟩) n cap), Par.EQ (Value.int IntKind.i64 (j : Int)), Par.EQ (Value.pointer (some ⟨g, j, none⟩)), Par.EQ (uv zj), Par.EQ (Value.slice (some ⟨g, 0, none⟩) n cap), Par.EQ (Value.int IntKind.i64 (j : Int)), Par.EQ (Value.int IntKind.i64 (q : Int)), Par.EQ (Value.pointer (some ⟨g, q, none⟩)), Par.EQ (uv zq), Par.EQ (Value.bool b0), Par.EQ (Value.bool b0)]) (by kernel_rfl) Ext.refl (fun _ _ _ h1 h2 => Ext.trans h1 h2) (Ext.draw _) (Par.VL_stab ?_) ?_ ?_
          · simp only [List.forall_mem_cons, List.not_mem_nil, false_implies, implies_true, and_true]
            refine ⟨fun _ _ _ _ h => h, fun _ _ _ _ h => h, fun _ _ _ _ h => h, fun _ _ _ _ h => h, fun _ _ _ _ h => h, fun _ _ _ _ h => h, fun _ _ _ _ h => h, fun _ _ _ _ h => h, fun _ _ _ _ h => h, fun _ _ _ _ h => h, fun _ _ _ _ h => h, fun _ _ _ _ h => h, fun _ _ _ _ h => h, fun _ _ _ _ h => h, fun _ _ _ _ h => h⟩
          · refine ⟨⟨fun _ _ => trivial, fun ρ w' hX hG hk => ?_⟩, ?_⟩
            · exact Par.val_of_run rfl ⟨Ext.refl _, hk.1⟩
            refine ⟨⟨fun _ _ => trivial, fun ρ w' hX hG hk => ?_⟩, ?_⟩
            · exact Par.val_of_run rfl ⟨Ext.refl _, hk.1⟩
            refine ⟨⟨fun _ _ => trivial, fun ρ w' hX hG hk => ?_⟩, ?_⟩
            · obtain ⟨k0, k1, -⟩ := hk
              have e0 : ρ (.tmp 16) = Value.int IntKind.i64 (j : Int) := k0
              have e1 : ρ (.tmp 17) = Value.int IntKind.i64 (a : Int) := k1
              clear k0 k1
              refine Par.val_k fun K hK => ?_
              unfold Par.val
              (go_simp; exact hK _ _ ⟨Ext.refl _, rfl⟩)
            refine ⟨⟨fun _ _ => trivial, fun ρ w' hX hG hk => ?_⟩, ?_⟩
            · exact Par.val_of_run rfl ⟨Ext.refl _, hk.1⟩
            refine ⟨⟨fun _ _ u hu => .inl hu, fun ρ w' hX hG hk => ?_⟩, ?_⟩
            · exact Par.val_of_run rfl ⟨Ext.refl _, hk.1⟩
            refine ⟨⟨fun _ _ u hu => .inl hu, fun ρ w' hX hG hk => ?_⟩, ?_⟩
            · exact Par.val_of_run rfl ⟨Ext.refl _, hk.1⟩
            refine ⟨⟨fun _ _ u hu => .inl hu, fun ρ w' hX hG hk => ?_⟩, ?_⟩
            · obtain ⟨k0, k1, -⟩ := hk
              have e0 : ρ (.tmp 20) = Value.slice (some ⟨g, 0, none⟩) n cap := k0
              have e1 : ρ (.tmp 21) = Value.int IntKind.i64 (j : Int) := k1
              clear k0 k1
              refine Par.val_k fun K hK => ?_
              unfold Par.val
              (go_simp; exact hK _ _ ⟨Ext.refl _, rfl⟩)
            refine ⟨⟨fun _ _ u hu => .inl hu, fun ρ w' hX hG hk => ?_⟩, ?_⟩
            · obtain ⟨k0, -⟩ := hk
              have e0 : ρ (.tmp 22) = Value.pointer (some ⟨g, j, none⟩) := k0
              clear k0
              refine Par.val_k fun K hK => ?_
              unfold Par.val
              (have cc := HCzj.out _ (RA.ext hX HR.out); go_simp; exact hK _ _ ⟨Ext.refl _, rfl⟩)
            refine ⟨⟨fun _ _ u hu => .inl hu, fun ρ w' hX hG hk => ?_⟩, ?_⟩
            · exact Par.val_of_run rfl ⟨Ext.refl _, hk.1⟩
            refine ⟨⟨fun _ _ u hu => .inl hu, fun ρ w' hX hG hk => ?_⟩, ?_⟩
            · exact Par.val_of_run rfl ⟨Ext.refl _, hk.1⟩
            refine ⟨⟨fun _ _ u hu => .inl hu, fun ρ w' hX hG hk => ?_⟩, ?_⟩
            · obtain ⟨k0, k1, -⟩ := hk
              have e0 : ρ (.tmp 25) = Value.int IntKind.i64 (j : Int) := k0
              have e1 : ρ (Operand.const (Value.int IntKind.i64 1)) = (Value.int IntKind.i64 1) := k1
              clear k0 k1
              refine Par.val_k fun K hK => ?_
              unfold Par.val
              (go_simp; exact hK _ _ ⟨Ext.refl _, rfl⟩)
            refine ⟨⟨fun _ _ u hu => .inl hu, fun ρ w' hX hG hk => ?_⟩, ?_⟩
            · obtain ⟨k0, k1, -⟩ := hk
              have e0 : ρ (.tmp 24) = Value.slice (some ⟨g, 0, none⟩) n cap := k0
              have e1 : ρ (.tmp 26) = Value.int IntKind.i64 (q : Int) := k1
              clear k0 k1
              refine Par.val_k fun K hK => ?_
              unfold Par.val
              (go_simp; exact hK _ _ ⟨Ext.refl _, rfl⟩)
            refine ⟨⟨fun _ _ u hu => .inl hu, fun ρ w' hX hG hk => ?_⟩, ?_⟩
            · obtain ⟨k0, -⟩ := hk
              have e0 : ρ (.tmp 27) = Value.pointer (some ⟨g, q, none⟩) := k0
              clear k0
              refine Par.val_k fun K hK => ?_
              unfold Par.val
              (have cc := HCzq.out _ (RA.ext hX HR.out); go_simp; exact hK _ _ ⟨Ext.refl _, rfl⟩)
            refine ⟨⟨fun _ _ u hu => .inl hu, fun ρ w' hX hG hk => ?_⟩, ?_⟩
            · obtain ⟨k0, k1, k2, -⟩ := hk
              have e0 := k0
              have e1 : ρ (.tmp 23) = uv zj := k1
              have e2 : ρ (.tmp 28) = uv zq := k2
              clear k0 k1 k2
              refine Par.val_k fun K hK => ?_
              unfold Par.val
              refine Par.val_call Tryd.func46 (by kernel_rfl) rfl e0 ?_
              simp only [List.map_toArray, List.map_cons, List.map_nil, e1, e2]
              refine (lessU_any zj zq _).mono ?_
              rintro e w2 ⟨rfl, rfl⟩
              exact ⟨_, rfl, hK _ _ ⟨Ext.refl _, (congrArg Value.bool Hb0.out)⟩⟩
            refine ⟨⟨fun _ _ => trivial, fun ρ w' hX hG hk => ?_⟩, ?_⟩
            · obtain ⟨k0, k1, k2, -⟩ := hk
              have e0 : ρ (.tmp 19) = Value.bool true := k0
              have e1 : ρ (.tmp 29) = Value.bool b0 := k1
              have e2 : ρ (Operand.const (Value.bool false)) = (Value.bool false) := k2
              clear k0 k1 k2
              refine Par.val_k fun K hK => ?_
              unfold Par.val
              (go_simp; exact hK _ _ ⟨Ext.refl _, rfl⟩)
            trivial
          intro a' w' inv
          have hX := inv.ext
          have q16 : a'.tmps.getD 16 undef = Value.int IntKind.i64 (j : Int) := inv.done 0 _ 16 rfl rfl rfl
          have q17 : a'.tmps.getD 17 undef = Value.int IntKind.i64 (a : Int) := inv.done 1 _ 17 rfl rfl rfl
          have q18 : a'.tmps.getD 18 undef = Value.bool true := inv.done 2 _ 18 rfl rfl rfl
          have q19 : a'.tmps.getD 19 undef = Value.bool true := inv.done 3 _ 19 rfl rfl rfl
          have q20 : a'.tmps.getD 20 undef = Value.slice (some ⟨g, 0, none⟩) n cap := inv.done 4 _ 20 rfl rfl rfl
          have q21 : a'.tmps.getD 21 undef = Value.int IntKind.i64 (j : Int) := inv.done 5 _ 21 rfl rfl rfl
          have q22 : a'.tmps.getD 22 undef = Value.pointer (some ⟨g, j, none⟩) := inv.done 6 _ 22 rfl rfl rfl
          have q23 : a'.tmps.getD 23 undef = uv zj := inv.done 7 _ 23 rfl rfl rfl
          have q24 : a'.tmps.getD 24 undef = Value.slice (some ⟨g, 0, none⟩) n cap := inv.done 8 _ 24 rfl rfl rfl
          have q25 : a'.tmps.getD 25 undef = Value.int IntKind.i64 (j : Int) := inv.done 9 _ 25 rfl rfl rfl
          have q26 : a'.tmps.getD 26 undef = Value.int IntKind.i64 (q : Int) := inv.done 10 _ 26 rfl rfl rfl
          have q27 : a'.tmps.getD 27 undef = Value.pointer (some ⟨g, q, none⟩) := inv.done 11 _ 27 rfl rfl rfl
          have q28 : a'.tmps.getD 28 undef = uv zq := inv.done 12 _ 28 rfl rfl rfl
          have q29 : a'.tmps.getD 29 undef = Value.bool b0 := inv.done 13 _ 29 rfl rfl rfl
          have q30 : a'.tmps.getD 30 undef = Value.bool b0 := inv.done 14 _ 30 rfl rfl rfl
          clear inv
          simp only [List.filterMap_cons, List.filterMap_nil, Par.putAll, Act.put, List.setIfInBounds_toArray, List.set_cons_succ, List.set_cons_zero, q16, q17, q18, q19, q20, q21, q22, q23, q24, q25, q26, q27, q28, q29, q30]
          clear q16 q17 q18 q19 q20 q21 q22 q23 q24 q25 q26 q27 q28 q29 q30
          clear a'
          have HF2 := hid (HF.out.trans (Ext.fr hX))
          have HR2 := hid (RA.ext hX HR.out)
          clear hX HF HR
          have HF := HF2
          have HR := HR2
          clear HF2 HR2
          cases b0
          case false =>
            have HO3 : Hid (insOuter ltU a b (k + 1) d = D) := hid (by have := HO.out; rw [HIN.out] at this; simpa using this)
            clear hcmp
            go_wp2
            go_roundw
            case rel => exact ⟨k + 1, d, by omega, by omega, by first | rfl | go_num, HR, HO3, HF⟩
            case measure => simp [intOf] <;> omega
          case true =>
            have HO3 : Hid (insOuter ltU a b (k + 1) (insInner ltU a q (swp d j q)) = D) := hid (by have := HO.out; rw [HIN.out] at this; simpa using this)
            go_wp2_with fail
            refine ParE.wp_region_e (l := [_, _, _, _, _, _, _, _, _, _, _, _, _, _, _, _, _, _]) rfl (Rg.Ch [15, 17] [] (SwV _ B g n cap j q zj zq d)) (ParC.VC [ParC.EQ (Value.slice (some ⟨g, 0, none⟩) n cap), ParC.EQ (Value.int IntKind.i64 (j : Int)), ParC.EQ (Value.slice (some ⟨g, 0, none⟩) n cap), ParC.EQ (Value.int IntKind.i64 (j : Int)), ParC.EQ (Value.int IntKind.i64 (q : Int)), ParC.EQ (Value.slice (some ⟨g, 0, none⟩) n cap), ParC.EQ (Value.int IntKind.i64 (j : Int)), ParC.EQ (Value.int IntKind.i64 (q : Int)), ParC.EQ (Value.pointer (some ⟨g, q, none⟩)), ParC.EQ (uv zq), ParC.EQ (Value.slice (some ⟨g, 0, none⟩) n cap), ParC.EQ (Value.int IntKind.i64 (j : Int)), ParC.EQ (Value.pointer (some ⟨g, j, none⟩)), ParC.EQ (uv zj), ParC.EQ (Value.pointer (some ⟨g, j, none⟩)), fun _ => True, ParC.EQ (Value.pointer (some ⟨g, q, none⟩)), fun _ => True]) (by kernel_rfl) (by kernel_rfl) (Rg.Ch.start ⟨fun _ => Ext.draw _, trivial⟩) ?_ ?_
            · refine ⟨fun L ρ w' hR hC hL hd hk => ?_, ?_⟩
              · exact Par.val_of_run rfl ⟨hR.other (by decide), hk.1⟩
              refine ⟨fun L ρ w' hR hC hL hd hk => ?_, ?_⟩
              · exact Par.val_of_run rfl ⟨hR.other (by decide), hk.1⟩
              refine ⟨fun L ρ w' hR hC hL hd hk => ?_, ?_⟩
              · exact Par.val_of_run rfl ⟨hR.other (by decide), hk.1⟩
              refine ⟨fun L ρ w' hR hC hL hd hk => ?_, ?_⟩
              · exact Par.val_of_run rfl ⟨hR.other (by decide), hk.1⟩
              refine ⟨fun L ρ w' hR hC hL hd hk => ?_, ?_⟩
              · obtain ⟨k0, k1, -⟩ := hk
                have e0 : ρ (.tmp 36) = Value.int IntKind.i64 (j : Int) := k0
                have e1 : ρ (Operand.const (Value.int IntKind.i64 1)) = (Value.int IntKind.i64 1) := k1
                clear k0 k1
                refine Par.val_k fun K hK => ?_
                unfold Par.val
                (go_simp; exact hK _ _ ⟨hR.other (by decide), rfl⟩)
              refine ⟨fun L ρ w' hR hC hL hd hk => ?_, ?_⟩
              · exact Par.val_of_run rfl ⟨hR.other (by decide), hk.1⟩
              refine ⟨fun L ρ w' hR hC hL hd hk => ?_, ?_⟩
              · exact Par.val_of_run rfl ⟨hR.other (by decide), hk.1⟩
              refine ⟨fun L ρ w' hR hC hL hd hk => ?_, ?_⟩
              · obtain ⟨k0, k1, -⟩ := hk
                have e0 : ρ (.tmp 39) = Value.int IntKind.i64 (j : Int) := k0
                have e1 : ρ (Operand.const (Value.int IntKind.i64 1)) = (Value.int IntKind.i64 1) := k1
                clear k0 k1
                refine Par.val_k fun K hK => ?_
                unfold Par.val
                (go_simp; exact hK _ _ ⟨hR.other (by decide), rfl⟩)
              refine ⟨fun L ρ w' hR hC hL hd hk => ?_, ?_⟩
              · obtain ⟨k0, k1, -⟩ := hk
                have e0 : ρ (.tmp 38) = Value.slice (some ⟨g, 0, none⟩) n cap := k0
                have e1 : ρ (.tmp 40) = Value.int IntKind.i64 (q : Int) := k1
                clear k0 k1
                refine Par.val_k fun K hK => ?_
                unfold Par.val
                (go_simp; exact hK _ _ ⟨hR.other (by decide), rfl⟩)
              refine ⟨fun L ρ w' hR hC hL hd hk => ?_, ?_⟩
              · obtain ⟨k0, -⟩ := hk
                have e0 : ρ (.tmp 41) = Value.pointer (some ⟨g, q, none⟩) := k0
                clear k0
                refine Par.val_k fun K hK => ?_
                unfold Par.val
                (obtain ⟨ii, hii, hq⟩ := hR.some 0 rfl (hC.notyet 15 9 hL (by kernel_rfl)); have cc := HCzq.out _ (RA.ext (hq.1 (by omega)) HR.out); go_simp; exact hK _ _ ⟨hR.other (by decide), rfl⟩)
              refine ⟨fun L ρ w' hR hC hL hd hk => ?_, ?_⟩
              · exact Par.val_of_run rfl ⟨hR.other (by decide), hk.1⟩
              refine ⟨fun L ρ w' hR hC hL hd hk => ?_, ?_⟩
              · exact Par.val_of_run rfl ⟨hR.other (by decide), hk.1⟩
              refine ⟨fun L ρ w' hR hC hL hd hk => ?_, ?_⟩
              · obtain ⟨k0, k1, -⟩ := hk
                have e0 : ρ (.tmp 43) = Value.slice (some ⟨g, 0, none⟩) n cap := k0
                have e1 : ρ (.tmp 44) = Value.int IntKind.i64 (j : Int) := k1
                clear k0 k1
                refine Par.val_k fun K hK => ?_
                unfold Par.val
                (go_simp; exact hK _ _ ⟨hR.other (by decide), rfl⟩)
              refine ⟨fun L ρ w' hR hC hL hd hk => ?_, ?_⟩
              · obtain ⟨k0, -⟩ := hk
                have e0 : ρ (.tmp 45) = Value.pointer (some ⟨g, j, none⟩) := k0
                clear k0
                refine Par.val_k fun K hK => ?_
                unfold Par.val
                (obtain ⟨ii, hii, hq⟩ := hR.some 0 rfl (hC.notyet 15 13 hL (by kernel_rfl)); have cc := HCzj.out _ (RA.ext (hq.1 (by omega)) HR.out); go_simp; exact hK _ _ ⟨hR.other (by decide), rfl⟩)
              refine ⟨fun L ρ w' hR hC hL hd hk => ?_, ?_⟩
              · obtain ⟨k0, k1, -⟩ := hk
                have e0 : ρ (.tmp 33) = Value.slice (some ⟨g, 0, none⟩) n cap := k0
                have e1 : ρ (.tmp 34) = Value.int IntKind.i64 (j : Int) := k1
                clear k0 k1
                refine Par.val_k fun K hK => ?_
                unfold Par.val
                (go_simp; exact hK _ _ ⟨hR.other (by decide), rfl⟩)
              refine ⟨fun L ρ w' hR hC hL hd hk => ?_, ?_⟩
              · obtain ⟨k0, k1, -⟩ := hk
                have e0 : ρ (.tmp 47) = Value.pointer (some ⟨g, j, none⟩) := k0
                have e1 : ρ (.tmp 42) = uv zq := k1
                clear k0 k1
                refine Par.val_k fun K hK => ?_
                unfold Par.val
                (obtain ⟨hq, hs⟩ := hR.go 0 rfl hL (.inl rfl) (by decide); have hx := hq.1 (by decide); have hrow := RA.ext hx HR.out; obtain ⟨cc, ff⟩ := hrow.at (j := j) (by omega); obtain ⟨hset, hfs⟩ := hrow.set j zq; have HSET := hid hset; have HFS := hid hfs; clear hset hfs hrow; go_simp; exact hK _ _ ⟨hs none _ _ ⟨fun h => absurd h (by decide), HSET.out, (Ext.fr hx).trans HFS.out⟩, trivial⟩)
              refine ⟨fun L ρ w' hR hC hL hd hk => ?_, ?_⟩
              · obtain ⟨k0, k1, -⟩ := hk
                have e0 : ρ (.tmp 35) = Value.slice (some ⟨g, 0, none⟩) n cap := k0
                have e1 : ρ (.tmp 37) = Value.int IntKind.i64 (q : Int) := k1
                clear k0 k1
                refine Par.val_k fun K hK => ?_
                unfold Par.val
                (go_simp; exact hK _ _ ⟨hR.other (by decide), rfl⟩)
              refine ⟨fun L ρ w' hR hC hL hd hk => ?_, ?_⟩
              · obtain ⟨k0, k1, -⟩ := hk
                have e0 : ρ (.tmp 48) = Value.pointer (some ⟨g, q, none⟩) := k0
                have e1 : ρ (.tmp 46) = uv zj := k1
                clear k0 k1
                refine Par.val_k fun K hK => ?_
                unfold Par.val
                (obtain ⟨hq, hs⟩ := hR.go 1 rfl hL (.inr ⟨15, rfl, hC.before 15 (i := 17) rfl hd (by kernel_rfl)⟩) (by decide); obtain ⟨hrow, hfr⟩ := hq.2; obtain ⟨cc, ff⟩ := hrow.at (j := q) (by omega); obtain ⟨hset, hfs⟩ := hrow.set q zj; have HSET := hid hset; have HFS := hid hfs; have HFR := hid hfr; clear hset hfs hrow hfr; go_simp; exact hK _ _ ⟨hs none _ _ ⟨fun h => absurd h (by decide), HSET.out, HFR.out.trans HFS.out⟩, trivial⟩)
              trivial
            intro a' w' inv hR
            have q33 : a'.tmps.getD 33 undef = Value.slice (some ⟨g, 0, none⟩) n cap := inv.done 0 _ 33 rfl rfl rfl
            have q34 : a'.tmps.getD 34 undef = Value.int IntKind.i64 (j : Int) := inv.done 1 _ 34 rfl rfl rfl
            have q35 : a'.tmps.getD 35 undef = Value.slice (some ⟨g, 0, none⟩) n cap := inv.done 2 _ 35 rfl rfl rfl
            have q36 : a'.tmps.getD 36 undef = Value.int IntKind.i64 (j : Int) := inv.done 3 _ 36 rfl rfl rfl
            have q37 : a'.tmps.getD 37 undef = Value.int IntKind.i64 (q : Int) := inv.done 4 _ 37 rfl rfl rfl
            have q38 : a'.tmps.getD 38 undef = Value.slice (some ⟨g, 0, none⟩) n cap := inv.done 5 _ 38 rfl rfl rfl
            have q39 : a'.tmps.getD 39 undef = Value.int IntKind.i64 (j : Int) := inv.done 6 _ 39 rfl rfl rfl
            have q40 : a'.tmps.getD 40 undef = Value.int IntKind.i64 (q : Int) := inv.done 7 _ 40 rfl rfl rfl
            have q41 : a'.tmps.getD 41 undef = Value.pointer (some ⟨g, q, none⟩) := inv.done 8 _ 41 rfl rfl rfl
            have q42 : a'.tmps.getD 42 undef = uv zq := inv.done 9 _ 42 rfl rfl rfl
            have q43 : a'.tmps.getD 43 undef = Value.slice (some ⟨g, 0, none⟩) n cap := inv.done 10 _ 43 rfl rfl rfl
            have q44 : a'.tmps.getD 44 undef = Value.int IntKind.i64 (j : Int) := inv.done 11 _ 44 rfl rfl rfl
            have q45 : a'.tmps.getD 45 undef = Value.pointer (some ⟨g, j, none⟩) := inv.done 12 _ 45 rfl rfl rfl
            have q46 : a'.tmps.getD 46 undef = uv zj := inv.done 13 _ 46 rfl rfl rfl
            have q47 : a'.tmps.getD 47 undef = Value.pointer (some ⟨g, j, none⟩) := inv.done 14 _ 47 rfl rfl rfl
            have q48 : a'.tmps.getD 48 undef = Value.pointer (some ⟨g, q, none⟩) := inv.done 16 _ 48 rfl rfl rfl
            clear inv
            simp only [List.filterMap_cons, List.filterMap_nil, Par.putAll, Act.put, List.setIfInBounds_toArray, List.set_cons_succ, List.set_cons_zero, q33, q34, q35, q36, q37, q38, q39, q40, q41, q42, q43, q44, q45, q46, q47, q48]
            clear q33 q34 q35 q36 q37 q38 q39 q40 q41 q42 q43 q44 q45 q46 q47 q48
            obtain ⟨-, hrd, hf⟩ := Rg.Ch.fin hR (by decide) 2 rfl; have HRD := hid hrd; have HF4 := hid hf; clear hrd hf hR
            try clear a'
            have HR3 := hid (RA.swp Hzj Hzq HRD.out)
            have HF3 := hid (HF.out.trans HF4.out)
            clear HRD HF4 HR HF
            have HR := HR3
            have HF := HF3
            clear HR3 HF3
            go_wp2
            go_roundw
            case rel => exact ⟨q, swp d j q, by have := HQ.out; omega, by have := HQ.out; omega, by first | rfl | go_num, HR, HO3, HF⟩
            case measure => simp [intOf]; have := HQ.out; omega
        · have HO3 : Hid (insOuter ltU a b (k + 1) d = D) := hid (by have := HO.out; rw [insInner_stop a j d hajg] at this; exact this)
          have hcmp : (a < j) = False := by simp; omega
          go_wp2_with fail
          refine Par.wp_region_par (l := [_, _, _, _, _, _, _, _, _, _, _, _, _, _, _]) rfl Ext (Par.VL [Par.EQ (Value.int IntKind.i64 (j : Int)), Par.EQ (Value.int IntKind.i64 (a : Int)), Par.EQ (Value.bool false), Par.EQ (Value.bool false), Par.EQ (undef), Par.EQ (undef), Par.EQ (undef), Par.EQ (undef), Par.EQ (undef), Par.EQ (undef), Par.EQ (undef), Par.EQ (undef), Par.EQ (undef), Par.EQ (undef), Par.EQ (Value.bool false)]) (by kernel_rfl) Ext.refl (fun _ _ _ h1 h2 => Ext.trans h1 h2) (Ext.draw _) (Par.VL_stab ?_) ?_ ?_
          · simp only [List.forall_mem_cons, List.not_mem_nil, false_implies, implies_true, and_true]
            refine ⟨fun _ _ _ _ h => h, fun _ _ _ _ h => h, fun _ _ _ _ h => h, fun _ _ _ _ h => h, fun _ _ _ _ h => h, fun _ _ _ _ h => h, fun _ _ _ _ h => h, fun _ _ _ _ h => h, fun _ _ _ _ h => h, fun _ _ _ _ h => h, fun _ _ _ _ h => h, fun _ _ _ _ h => h, fun _ _ _ _ h => h, fun _ _ _ _ h => h, fun _ _ _ _ h => h⟩
          · refine ⟨⟨fun _ _ => trivial, fun ρ w' hX hG hk => ?_⟩, ?_⟩
            · exact Par.val_of_run rfl ⟨Ext.refl _, hk.1⟩
            refine ⟨⟨fun _ _ => trivial, fun ρ w' hX hG hk => ?_⟩, ?_⟩
            · exact Par.val_of_run rfl ⟨Ext.refl _, hk.1⟩
            refine ⟨⟨fun _ _ => trivial, fun ρ w' hX hG hk => ?_⟩, ?_⟩
            · obtain ⟨k0, k1, -⟩ := hk
              have e0 : ρ (.tmp 16) = Value.int IntKind.i64 (j : Int) := k0
              have e1 : ρ (.tmp 17) = Value.int IntKind.i64 (a : Int) := k1
              clear k0 k1
              refine Par.val_k fun K hK => ?_
              unfold Par.val
              (go_simp; exact hK _ _ ⟨Ext.refl _, rfl⟩)
            refine ⟨⟨fun _ _ => trivial, fun ρ w' hX hG hk => ?_⟩, ?_⟩
            · exact Par.val_of_run rfl ⟨Ext.refl _, hk.1⟩
            refine ⟨⟨fun _ _ u hu => .inr rfl, fun ρ w' hX hG hk => ?_⟩, ?_⟩
            · cases hG
            refine ⟨⟨fun _ _ u hu => .inr rfl, fun ρ w' hX hG hk => ?_⟩, ?_⟩
            · cases hG
            refine ⟨⟨fun _ _ u hu => .inr rfl, fun ρ w' hX hG hk => ?_⟩, ?_⟩
            · cases hG
            refine ⟨⟨fun _ _ u hu => .inr rfl, fun ρ w' hX hG hk => ?_⟩, ?_⟩
            · cases hG
            refine ⟨⟨fun _ _ u hu => .inr rfl, fun ρ w' hX hG hk => ?_⟩, ?_⟩
            · cases hG
            refine ⟨⟨fun _ _ u hu => .inr rfl, fun ρ w' hX hG hk => ?_⟩, ?_⟩
            · cases hG
            refine ⟨⟨fun _ _ u hu => .inr rfl, fun ρ w' hX hG hk => ?_⟩, ?_⟩
            · cases hG
            refine ⟨⟨fun _ _ u hu => .inr rfl, fun ρ w' hX hG hk => ?_⟩, ?_⟩
            · cases hG
            refine ⟨⟨fun _ _ u hu => .inr rfl, fun ρ w' hX hG hk => ?_⟩, ?_⟩
            · cases hG
            refine ⟨⟨fun _ _ u hu => .inr rfl, fun ρ w' hX hG hk => ?_⟩, ?_⟩
            · cases hG
            refine ⟨⟨fun _ _ => trivial, fun ρ w' hX hG hk => ?_⟩, ?_⟩
            · obtain ⟨k0, k1, k2, -⟩ := hk
              have e0 : ρ (.tmp 19) = Value.bool false := k0
              have e1 : ρ (.tmp 29) = undef := k1
              have e2 : ρ (Operand.const (Value.bool false)) = (Value.bool false) := k2
              clear k0 k1 k2
              refine Par.val_k fun K hK => ?_
              unfold Par.val
              (go_simp; exact hK _ _ ⟨Ext.refl _, rfl⟩)
            trivial
          intro a' w' inv
          have hX := inv.ext
          have q16 : a'.tmps.getD 16 undef = Value.int IntKind.i64 (j : Int) := inv.done 0 _ 16 rfl rfl rfl
          have q17 : a'.tmps.getD 17 undef = Value.int IntKind.i64 (a : Int) := inv.done 1 _ 17 rfl rfl rfl
          have q18 : a'.tmps.getD 18 undef = Value.bool false := inv.done 2 _ 18 rfl rfl rfl
          have q19 : a'.tmps.getD 19 undef = Value.bool false := inv.done 3 _ 19 rfl rfl rfl
          have q20 : a'.tmps.getD 20 undef = undef := inv.done 4 _ 20 rfl rfl rfl
          have q21 : a'.tmps.getD 21 undef = undef := inv.done 5 _ 21 rfl rfl rfl
          have q22 : a'.tmps.getD 22 undef = undef := inv.done 6 _ 22 rfl rfl rfl
          have q23 : a'.tmps.getD 23 undef = undef := inv.done 7 _ 23 rfl rfl rfl
          have q24 : a'.tmps.getD 24 undef = undef := inv.done 8 _ 24 rfl rfl rfl
          have q25 : a'.tmps.getD 25 undef = undef := inv.done 9 _ 25 rfl rfl rfl
          have q26 : a'.tmps.getD 26 undef = undef := inv.done 10 _ 26 rfl rfl rfl
          have q27 : a'.tmps.getD 27 undef = undef := inv.done 11 _ 27 rfl rfl rfl
          have q28 : a'.tmps.getD 28 undef = undef := inv.done 12 _ 28 rfl rfl rfl
          have q29 : a'.tmps.getD 29 undef = undef := inv.done 13 _ 29 rfl rfl rfl
          have q30 : a'.tmps.getD 30 undef = Value.bool false := inv.done 14 _ 30 rfl rfl rfl
          clear inv
          simp only [List.filterMap_cons, List.filterMap_nil, Par.putAll, Act.put, List.setIfInBounds_toArray, List.set_cons_succ, List.set_cons_zero, q16, q17, q18, q19, q20, q21, q22, q23, q24, q25, q26, q27, q28, q29, q30]
          clear q16 q17 q18 q19 q20 q21 q22 q23 q24 q25 q26 q27 q28 q29 q30
          clear a'
          have HF2 := hid (HF.out.trans (Ext.fr hX))
          have HR2 := hid (RA.ext hX HR.out)
          clear hX HF HR
          have HF := HF2
          have HR := HR2
          clear HF2 HR2
          clear hcmp
          go_wp2
          go_roundw
          case rel => exact ⟨k + 1, d, by omega, by omega, by first | rfl | go_num, HR, HO3, HF⟩
          case measure => simp [intOf] <;> omega
    · have HO2 : Hid (d = D) := hid (by have := HO.out; rw [insOuter, if_neg hlt] at this; exact this)
      go_wp2
      go_returns
      exact ⟨⟨_, rfl⟩, by have := HR.out; rw [HO2.out] at this; exact this, HF.out⟩
end Go.Proofs.YtpbmbjdiilnaeaaDoor
