/- slices.Sort of numbers (12 or fewer). -/
import Derived.Test.YtekjflndblgegaaDoorNamS
import Derived.Test.YtekjflndblgegaaDoorVec
import Derived.Test.YtekjflndblgegaaDoorParE
import Derived.Test.YtekjflndblgegaaDoorRgC
import Derived.Test.YtekjflndblgegaaDoorFr
import Derived.Sort.WalkA
import Derived.Sort.LotA
import Derived.Handy
set_option linter.unusedSimpArgs false
set_option linter.unusedVariables false
namespace Go.Proofs.YtekjflndblgegaaDoor
open Go Go.RowKit Go.Tum Go.ChangeMaps Go.Sort
open Go.ParB (upd Lof)
open Go.ParE (putS slotsR slots Closed)

abbrev ltU (a b : UInt64) : Bool := decide (a < b)
theorem isNaN_any (a : UInt64) (w : World) : Calls Tryd.prog 54 #[uv a] w fun e w' => e = .returned (.bool false) ∧ w' = w := by
  have h : ((a.toNat : Int) != (a.toNat : Int)) = false := by simp
  go_enter Tryd.func54, Tryd.ntmps54
  go_wp2
  go_ret
  exact ⟨rfl, rfl⟩
theorem lessU_any (a b : UInt64) (w : World) : Calls Tryd.prog 40 #[uv a, uv b] w fun e w' => e = .returned (.bool (ltU a b)) ∧ w' = w := by
  have e1 : ltU a b = decide (a.toNat < b.toNat) := by unfold ltU; simp only [UInt64.lt_iff_toNat_lt]
  obtain ⟨c, hc⟩ : ∃ c, decide (a.toNat < b.toNat) = c := ⟨_, rfl⟩
  rw [e1, hc]
  clear e1
  go_enter Tryd.func40, Tryd.ntmps40
  go_wp2_with fail
  refine (isNaN_any a w).mono ?_
  rintro e w1 ⟨rfl, rfl⟩
  cases c <;> (go_wp2; go_ret; exact ⟨rfl, rfl⟩)
abbrev RowU (w : World) (B g n cap : Nat) (l : List UInt64) : Prop := w.ownsRow B 22 1 (.slice (some ⟨g, 0, none⟩) n cap) n (l.map uv)
theorem addU (g k : Nat) : (⟨g, 0, none⟩ : Addr).add k = ⟨g, k, none⟩ := by unfold Addr.add; split <;> simp_all
theorem RowU.at {w : World} {B g n cap : Nat} {l : List UInt64} (h : RowU w B g n cap l) (hn : l.length = n) {j : Nat} (hj : j < n) : w.cell? ⟨g, j, none⟩ = some (uv (l[j]'(by omega))) ∧ w.frozen? ⟨g, j, none⟩ = false := by
  refine ⟨?_, World.ownsRow.frozenAt h _⟩
  rw [World.ownsRow.cellAt h _ (by omega)]
  simp [show j < l.length by omega]
theorem RowU.set {w : World} {B g n cap : Nat} {l : List UInt64} (h : RowU w B g n cap l) (j : Nat) (z : UInt64) : RowU (w.setCell ⟨g, j, none⟩ (uv z)) B g n cap (l.set j z) ∧ Fr [g] w (w.setCell ⟨g, j, none⟩ (uv z)) := by
  have := (World.ownsRow.stored h j (uv z)).1
  refine ⟨?_, fr_setCell _ _ _ (by simp)⟩
  show World.ownsRow _ B _ 1 _ n ((l.set j z).map uv)
  rw [List.map_set]
  exact this
theorem swpU_list (d : Array UInt64) (j : Nat) (h : j + 1 < d.size) : (swp d (j + 1) j).toList = (d.toList.set (j + 1) (d.toList[j]'(by simp; omega))).set j (d.toList[j + 1]'(by simpa using h)) := by
  unfold swp
  rw [getElem!_pos d j (by omega), getElem!_pos d (j + 1) h]
  simp
def SwU (W : World) (B g n cap J : Nat) (l : List UInt64) (z : UInt64) (P : World → Prop) (i : Nat) (_ : Nat → Value) (w' : World) : Prop := (i < 1 → Ext W w') ∧ match i with
  | 1 => RowU w' B g n cap (l.set J z) ∧ Fr [g] W w'
  | 2 => P w'
  | _ => True
set_option maxRecDepth 100000 in
set_option maxHeartbeats 2000000 in
theorem insU_any {B : Nat} {w : World} (g n cap : Nat) (l : List UInt64) (h : RowU w B g n cap l) (hn : l.length = n) (hn12 : n ≤ 12) :
    Calls Tryd.prog 34 #[.slice (some ⟨g, 0, none⟩) n cap, .int .i64 0, .int .i64 (n : Int)] w fun e w' =>
      (∃ u, e = .returned u) ∧ RowU w' B g n cap (insertionSort ltU l.toArray 0 n).toList ∧ Fr [g] w w' := by
  obtain ⟨D, hD⟩ : ∃ D, insertionSort ltU l.toArray 0 n = D := ⟨_, rfl⟩
  have HD : Hid (insOuter ltU 0 n 1 l.toArray = D) := hid hD
  rw [hD]
  have H0 := hid h
  have HN0 := hid hn
  have hcapf : n ≤ cap ∧ cap ≤ 9223372036854775807 := by
    rcases h.2 with ⟨hv, -⟩ | ⟨g', cap', cur, hv, hb, hgg, h1, h2, -⟩
    · cases hv
    · cases hv; exact ⟨h1, by simpa [maxLen] using h2⟩
  obtain ⟨hcap1, hcap2⟩ := hcapf
  clear h hn hD
  go_enter Tryd.func34, Tryd.ntmps34
  go_wp2
  go_loopw [6] (fun iv wr => ∃ (k : Nat) (d : Array UInt64), 1 ≤ k ∧ k ≤ n + 1 ∧ iv = .int .i64 (k : Int) ∧ Hid (d.size = n) ∧ Hid (RowU wr B g n cap d.toList) ∧ Hid (insOuter ltU 0 n k d = D) ∧ Hid (Fr [g] w wr)) (fun iv _ => n + 1 - (intOf iv).toNat)
  case atStart => exact ⟨1, l.toArray, by omega, by omega, rfl, hid (by simpa using HN0.out), H0, HD, hid (Fr.refl _ _)⟩
  case round =>
    obtain ⟨k, d, hk1, hk2, rfl, HS, HR, HO, HF⟩ := hrel
    by_cases hlt : k < n
    · have hki : (k : Int) < n := by omega
      have HKN := hid hlt
      have HK1 := hid hk1
      have HO2 : Hid (insOuter ltU 0 n (k + 1) (insInner ltU 0 k d) = D) := hid (by have := HO.out; rw [insOuter, if_pos hlt] at this; exact this)
      go_wp2
      go_loopw [7] (fun jv w3 => ∃ (j : Nat) (e : Array UInt64), j ≤ k ∧ jv = .int .i64 (j : Int) ∧ Hid (e.size = n) ∧ Hid (RowU w3 B g n cap e.toList) ∧ Hid (insOuter ltU 0 n (k + 1) (insInner ltU 0 j e) = D) ∧ Hid (Fr [g] w w3)) (fun jv _ => (intOf jv).toNat)
      case atStart => exact ⟨k, d, by omega, rfl, HS, HR, HO2, HF⟩
      case round =>
        clear HO2 HS HR HO HF
        obtain ⟨j, e, hj, rfl, HS, HR, HO, HF⟩ := hrel
        have HJ := hid hj
        rcases Nat.eq_zero_or_pos j with rfl | hjp
        · have HO3 : Hid (insOuter ltU 0 n (k + 1) e = D) := hid (by have := HO.out; rw [insInner] at this; exact this)
          go_wp2_with fail
          refine Par.wp_region_par (l := [_, _, _, _, _, _, _, _, _, _, _, _, _, _, _]) rfl Ext (Par.VL [Par.EQ (Value.int IntKind.i64 0), Par.EQ (Value.int IntKind.i64 0), Par.EQ (Value.bool false), Par.EQ (Value.bool false), Par.EQ (undef), Par.EQ (undef), Par.EQ (undef), Par.EQ (undef), Par.EQ (undef), Par.EQ (undef), Par.EQ (undef), Par.EQ (undef), Par.EQ (undef), Par.EQ (undef), Par.EQ (Value.bool false)]) (by kernel_rfl) Ext.refl (fun _ _ _ h1 h2 => Ext.trans h1 h2) (Ext.draw _) (Par.VL_stab ?_) ?_ ?_
          · simp only [List.forall_mem_cons, List.not_mem_nil, false_implies, implies_true, and_true]
            refine ⟨fun _ _ _ _ h => h, fun _ _ _ _ h => h, fun _ _ _ _ h => h, fun _ _ _ _ h => h, fun _ _ _ _ h => h, fun _ _ _ _ h => h, fun _ _ _ _ h => h, fun _ _ _ _ h => h, fun _ _ _ _ h => h, fun _ _ _ _ h => h, fun _ _ _ _ h => h, fun _ _ _ _ h => h, fun _ _ _ _ h => h, fun _ _ _ _ h => h, fun _ _ _ _ h => h⟩
          · refine ⟨⟨fun _ _ => trivial, fun ρ w' hX hG hk => ?_⟩, ?_⟩
            · exact Par.val_of_run rfl ⟨Ext.refl _, hk.1⟩
            refine ⟨⟨fun _ _ => trivial, fun ρ w' hX hG hk => ?_⟩, ?_⟩
            · exact Par.val_of_run rfl ⟨Ext.refl _, hk.1⟩
            refine ⟨⟨fun _ _ => trivial, fun ρ w' hX hG hk => ?_⟩, ?_⟩
            · obtain ⟨k0, k1, -⟩ := hk
              have e0 : ρ (.tmp 16) = Value.int IntKind.i64 0 := k0
              have e1 : ρ (.tmp 17) = Value.int IntKind.i64 0 := k1
              clear k0 k1
              refine Par.val_k fun K hK => ?_
              unfold Par.val
              (go_simp; exact hK _ _ ⟨Ext.refl _, rfl⟩)
            refine ⟨⟨fun _ _ => trivial, fun ρ w' hX hG hk => ?_⟩, ?_⟩
            · exact Par.val_of_run rfl ⟨Ext.refl _, hk.1⟩
            refine ⟨⟨fun _ _ u hu => .inr rfl, fun ρ w' hX hG hk => ?_⟩, ?_⟩
            · cases hG
            refine ⟨⟨fun _ _ u hu => .inr rfl, fun ρ w' hX hG hk => ?_⟩, ?_⟩
            · cases hG
            refine ⟨⟨fun _ _ u hu => .inr rfl, fun ρ w' hX hG hk => ?_⟩, ?_⟩
            · cases hG
            refine ⟨⟨fun _ _ u hu => .inr rfl, fun ρ w' hX hG hk => ?_⟩, ?_⟩
            · cases hG
            refine ⟨⟨fun _ _ u hu => .inr rfl, fun ρ w' hX hG hk => ?_⟩, ?_⟩
            · cases hG
            refine ⟨⟨fun _ _ u hu => .inr rfl, fun ρ w' hX hG hk => ?_⟩, ?_⟩
            · cases hG
            refine ⟨⟨fun _ _ u hu => .inr rfl, fun ρ w' hX hG hk => ?_⟩, ?_⟩
            · cases hG
            refine ⟨⟨fun _ _ u hu => .inr rfl, fun ρ w' hX hG hk => ?_⟩, ?_⟩
            · cases hG
            refine ⟨⟨fun _ _ u hu => .inr rfl, fun ρ w' hX hG hk => ?_⟩, ?_⟩
            · cases hG
            refine ⟨⟨fun _ _ u hu => .inr rfl, fun ρ w' hX hG hk => ?_⟩, ?_⟩
            · cases hG
            refine ⟨⟨fun _ _ => trivial, fun ρ w' hX hG hk => ?_⟩, ?_⟩
            · obtain ⟨k0, k1, k2, -⟩ := hk
              have e0 : ρ (.tmp 19) = Value.bool false := k0
              have e1 : ρ (.tmp 29) = undef := k1
              have e2 : ρ (Operand.const (Value.bool false)) = (Value.bool false) := k2
              clear k0 k1 k2
              refine Par.val_k fun K hK => ?_
              unfold Par.val
              (go_simp; exact hK _ _ ⟨Ext.refl _, rfl⟩)
            trivial
          intro a' w' inv
          have hX := inv.ext
          have q16 : a'.tmps.getD 16 undef = Value.int IntKind.i64 0 := inv.done 0 _ 16 rfl rfl rfl
          have q17 : a'.tmps.getD 17 undef = Value.int IntKind.i64 0 := inv.done 1 _ 17 rfl rfl rfl
          have q18 : a'.tmps.getD 18 undef = Value.bool false := inv.done 2 _ 18 rfl rfl rfl
          have q19 : a'.tmps.getD 19 undef = Value.bool false := inv.done 3 _ 19 rfl rfl rfl
          have q20 : a'.tmps.getD 20 undef = undef := inv.done 4 _ 20 rfl rfl rfl
          have q21 : a'.tmps.getD 21 undef = undef := inv.done 5 _ 21 rfl rfl rfl
          have q22 : a'.tmps.getD 22 undef = undef := inv.done 6 _ 22 rfl rfl rfl
          have q23 : a'.tmps.getD 23 undef = undef := inv.done 7 _ 23 rfl rfl rfl
          have q24 : a'.tmps.getD 24 undef = undef := inv.done 8 _ 24 rfl rfl rfl
          have q25 : a'.tmps.getD 25 undef = undef := inv.done 9 _ 25 rfl rfl rfl
          have q26 : a'.tmps.getD 26 undef = undef := inv.done 10 _ 26 rfl rfl rfl
          have q27 : a'.tmps.getD 27 undef = undef := inv.done 11 _ 27 rfl rfl rfl
          have q28 : a'.tmps.getD 28 undef = undef := inv.done 12 _ 28 rfl rfl rfl
          have q29 : a'.tmps.getD 29 undef = undef := inv.done 13 _ 29 rfl rfl rfl
          have q30 : a'.tmps.getD 30 undef = Value.bool false := inv.done 14 _ 30 rfl rfl rfl
          clear inv
          simp only [List.filterMap_cons, List.filterMap_nil, Par.putAll, Act.put, List.setIfInBounds_toArray, List.set_cons_succ, List.set_cons_zero, q16, q17, q18, q19, q20, q21, q22, q23, q24, q25, q26, q27, q28, q29, q30]
          clear q16 q17 q18 q19 q20 q21 q22 q23 q24 q25 q26 q27 q28 q29 q30
          clear a'
          have HF2 := hid (HF.out.trans (Ext.fr hX))
          have HR2 := hid (hX.owns HR.out)
          clear hX HF HR
          go_wp2
          go_roundw
          case rel => exact ⟨k + 1, e, by omega, by omega, by go_num, HS, HR2, HO3, HF2⟩
          case measure => simp [intOf]; omega
        · obtain ⟨j, rfl⟩ : ∃ i, j = i + 1 := ⟨j - 1, by omega⟩
          have hjn : j + 1 < n := by have := HKN.out; omega
          have hes : e.toList.length = n := by simpa using HS.out
          have hj1 : (j : Int) + 1 < n := by omega
          have hjl : j < e.toList.length := by rw [hes]; omega
          have hjl1 : j + 1 < e.toList.length := by rw [hes]; omega
          obtain ⟨zb, hzb⟩ : ∃ z, e.toList[j]'hjl = z := ⟨_, rfl⟩
          obtain ⟨za, hza⟩ : ∃ z, e.toList[j + 1]'hjl1 = z := ⟨_, rfl⟩
          have HZB := hid hzb
          have HZA := hid hza
          have HES := hid hes
          have HJN := hid hjn
          have HCA : Hid (∀ w', RowU w' B g n cap e.toList → w'.cell? ⟨g, j + 1, none⟩ = some (uv za)) := hid (fun w' h => by have := (h.at HES.out HJN.out).1; rw [HZA.out] at this; exact this)
          have HCB : Hid (∀ w', RowU w' B g n cap e.toList → w'.cell? ⟨g, j, none⟩ = some (uv zb)) := hid (fun w' h => by have := (h.at HES.out (j := j) (by have := HJN.out; omega)).1; rw [HZB.out] at this; exact this)
          have HIN : Hid (insInner ltU 0 (j + 1) e = if ltU za zb then insInner ltU 0 j (swp e (j + 1) j) else e) := hid (by
            rw [insInner, getElem!_pos e (j + 1) (by rw [HS.out]; omega), getElem!_pos e j (by rw [HS.out]; omega), ← hza, ← hzb]
            simp)
          clear hzb hza hes hj
          obtain ⟨b0, hb0⟩ : ∃ b, ltU za zb = b := ⟨_, rfl⟩
          have HB0 := hid hb0
          clear hb0
          have hpos : decide ((0 : Int) < (j : Int) + 1) = true := by first | (simp; done) | (simp; omega)
          have hjn0 : j < n := by omega
          have hkb : k ≤ 12 := by omega
          go_wp2_with fail
          refine Par.wp_region_par (l := [_, _, _, _, _, _, _, _, _, _, _, _, _, _, _]) rfl Ext (Par.VL [Par.EQ (Value.int IntKind.i64 ((j : Int) + 1)), Par.EQ (Value.int IntKind.i64 0), Par.EQ (Value.bool true), Par.EQ (Value.bool true), Par.EQ (Value.slice (some ⟨g, 0, none⟩) n cap), Par.EQ (Value.int IntKind.i64 ((j : Int) + 1)), Par.EQ (Value.pointer (some ⟨g, j + 1, none⟩)), Par.EQ (uv za), Par.EQ (Value.slice (some ⟨g, 0, none⟩) n cap), Par.EQ (Value.int IntKind.i64 ((j : Int) + 1)), Par.EQ (Value.int IntKind.i64 (j : Int)), Par.EQ (Value.pointer (some ⟨g, j, none⟩)), Par.EQ (uv zb), Par.EQ (Value.bool b0), Par.EQ (Value.bool b0)]) (by kernel_rfl) Ext.refl (fun _ _ _ h1 h2 => Ext.trans h1 h2) (Ext.draw _) (Par.VL_stab ?_) ?_ ?_
          · simp only [List.forall_mem_cons, List.not_mem_nil, false_implies, implies_true, and_true]
            refine ⟨fun _ _ _ _ h => h, fun _ _ _ _ h => h, fun _ _ _ _ h => h, fun _ _ _ _ h => h, fun _ _ _ _ h => h, fun _ _ _ _ h => h, fun _ _ _ _ h => h, fun _ _ _ _ h => h, fun _ _ _ _ h => h, fun _ _ _ _ h => h, fun _ _ _ _ h => h, fun _ _ _ _ h => h, fun _ _ _ _ h => h, fun _ _ _ _ h => h, fun _ _ _ _ h => h⟩
          · refine ⟨⟨fun _ _ => trivial, fun ρ w' hX hG hk => ?_⟩, ?_⟩
            · exact Par.val_of_run rfl ⟨Ext.refl _, hk.1⟩
            refine ⟨⟨fun _ _ => trivial, fun ρ w' hX hG hk => ?_⟩, ?_⟩
            · exact Par.val_of_run rfl ⟨Ext.refl _, hk.1⟩
            refine ⟨⟨fun _ _ => trivial, fun ρ w' hX hG hk => ?_⟩, ?_⟩
            · obtain ⟨k0, k1, -⟩ := hk
              have e0 : ρ (.tmp 16) = Value.int IntKind.i64 ((j : Int) + 1) := k0
              have e1 : ρ (.tmp 17) = Value.int IntKind.i64 0 := k1
              clear k0 k1
              refine Par.val_k fun K hK => ?_
              unfold Par.val
              (go_simp; exact hK _ _ ⟨Ext.refl _, rfl⟩)
            refine ⟨⟨fun _ _ => trivial, fun ρ w' hX hG hk => ?_⟩, ?_⟩
            · exact Par.val_of_run rfl ⟨Ext.refl _, hk.1⟩
            refine ⟨⟨fun _ _ u hu => .inl hu, fun ρ w' hX hG hk => ?_⟩, ?_⟩
            · exact Par.val_of_run rfl ⟨Ext.refl _, hk.1⟩
            refine ⟨⟨fun _ _ u hu => .inl hu, fun ρ w' hX hG hk => ?_⟩, ?_⟩
            · exact Par.val_of_run rfl ⟨Ext.refl _, hk.1⟩
            refine ⟨⟨fun _ _ u hu => .inl hu, fun ρ w' hX hG hk => ?_⟩, ?_⟩
            · obtain ⟨k0, k1, -⟩ := hk
              have e0 : ρ (.tmp 20) = Value.slice (some ⟨g, 0, none⟩) n cap := k0
              have e1 : ρ (.tmp 21) = Value.int IntKind.i64 ((j : Int) + 1) := k1
              clear k0 k1
              refine Par.val_k fun K hK => ?_
              unfold Par.val
              (go_simp; exact hK _ _ ⟨Ext.refl _, rfl⟩)
            refine ⟨⟨fun _ _ u hu => .inl hu, fun ρ w' hX hG hk => ?_⟩, ?_⟩
            · obtain ⟨k0, -⟩ := hk
              have e0 : ρ (.tmp 22) = Value.pointer (some ⟨g, j + 1, none⟩) := k0
              clear k0
              refine Par.val_k fun K hK => ?_
              unfold Par.val
              (have cc := HCA.out _ (hX.owns HR.out); go_simp; exact hK _ _ ⟨Ext.refl _, rfl⟩)
            refine ⟨⟨fun _ _ u hu => .inl hu, fun ρ w' hX hG hk => ?_⟩, ?_⟩
            · exact Par.val_of_run rfl ⟨Ext.refl _, hk.1⟩
            refine ⟨⟨fun _ _ u hu => .inl hu, fun ρ w' hX hG hk => ?_⟩, ?_⟩
            · exact Par.val_of_run rfl ⟨Ext.refl _, hk.1⟩
            refine ⟨⟨fun _ _ u hu => .inl hu, fun ρ w' hX hG hk => ?_⟩, ?_⟩
            · obtain ⟨k0, k1, -⟩ := hk
              have e0 : ρ (.tmp 25) = Value.int IntKind.i64 ((j : Int) + 1) := k0
              have e1 : ρ (Operand.const (Value.int IntKind.i64 1)) = (Value.int IntKind.i64 1) := k1
              clear k0 k1
              refine Par.val_k fun K hK => ?_
              unfold Par.val
              (have hwr : IntKind.i64.wrap (j : Int) = (j : Int) := IntWalk.i64_in _ (by omega); go_simp; exact hK _ _ ⟨Ext.refl _, rfl⟩)
            refine ⟨⟨fun _ _ u hu => .inl hu, fun ρ w' hX hG hk => ?_⟩, ?_⟩
            · obtain ⟨k0, k1, -⟩ := hk
              have e0 : ρ (.tmp 24) = Value.slice (some ⟨g, 0, none⟩) n cap := k0
              have e1 : ρ (.tmp 26) = Value.int IntKind.i64 (j : Int) := k1
              clear k0 k1
              refine Par.val_k fun K hK => ?_
              unfold Par.val
              (go_simp; exact hK _ _ ⟨Ext.refl _, rfl⟩)
            refine ⟨⟨fun _ _ u hu => .inl hu, fun ρ w' hX hG hk => ?_⟩, ?_⟩
            · obtain ⟨k0, -⟩ := hk
              have e0 : ρ (.tmp 27) = Value.pointer (some ⟨g, j, none⟩) := k0
              clear k0
              refine Par.val_k fun K hK => ?_
              unfold Par.val
              (have cc := HCB.out _ (hX.owns HR.out); go_simp; exact hK _ _ ⟨Ext.refl _, rfl⟩)
            refine ⟨⟨fun _ _ u hu => .inl hu, fun ρ w' hX hG hk => ?_⟩, ?_⟩
            · obtain ⟨k0, k1, k2, -⟩ := hk
              have e0 := k0
              have e1 : ρ (.tmp 23) = uv za := k1
              have e2 : ρ (.tmp 28) = uv zb := k2
              clear k0 k1 k2
              refine Par.val_k fun K hK => ?_
              unfold Par.val
              refine Par.val_call Tryd.func40 (by kernel_rfl) rfl e0 ?_
              simp only [List.map_toArray, List.map_cons, List.map_nil, e1, e2]
              refine (lessU_any za zb _).mono ?_
              rintro e w2 ⟨rfl, rfl⟩
              exact ⟨_, rfl, hK _ _ ⟨Ext.refl _, (congrArg Value.bool HB0.out)⟩⟩
            refine ⟨⟨fun _ _ => trivial, fun ρ w' hX hG hk => ?_⟩, ?_⟩
            · obtain ⟨k0, k1, k2, -⟩ := hk
              have e0 : ρ (.tmp 19) = Value.bool true := k0
              have e1 : ρ (.tmp 29) = Value.bool b0 := k1
              have e2 : ρ (Operand.const (Value.bool false)) = (Value.bool false) := k2
              clear k0 k1 k2
              refine Par.val_k fun K hK => ?_
              unfold Par.val
              (go_simp; exact hK _ _ ⟨Ext.refl _, rfl⟩)
            trivial
          intro a' w' inv
          have hX := inv.ext
          have q16 : a'.tmps.getD 16 undef = Value.int IntKind.i64 ((j : Int) + 1) := inv.done 0 _ 16 rfl rfl rfl
          have q17 : a'.tmps.getD 17 undef = Value.int IntKind.i64 0 := inv.done 1 _ 17 rfl rfl rfl
          have q18 : a'.tmps.getD 18 undef = Value.bool true := inv.done 2 _ 18 rfl rfl rfl
          have q19 : a'.tmps.getD 19 undef = Value.bool true := inv.done 3 _ 19 rfl rfl rfl
          have q20 : a'.tmps.getD 20 undef = Value.slice (some ⟨g, 0, none⟩) n cap := inv.done 4 _ 20 rfl rfl rfl
          have q21 : a'.tmps.getD 21 undef = Value.int IntKind.i64 ((j : Int) + 1) := inv.done 5 _ 21 rfl rfl rfl
          have q22 : a'.tmps.getD 22 undef = Value.pointer (some ⟨g, j + 1, none⟩) := inv.done 6 _ 22 rfl rfl rfl
          have q23 : a'.tmps.getD 23 undef = uv za := inv.done 7 _ 23 rfl rfl rfl
          have q24 : a'.tmps.getD 24 undef = Value.slice (some ⟨g, 0, none⟩) n cap := inv.done 8 _ 24 rfl rfl rfl
          have q25 : a'.tmps.getD 25 undef = Value.int IntKind.i64 ((j : Int) + 1) := inv.done 9 _ 25 rfl rfl rfl
          have q26 : a'.tmps.getD 26 undef = Value.int IntKind.i64 (j : Int) := inv.done 10 _ 26 rfl rfl rfl
          have q27 : a'.tmps.getD 27 undef = Value.pointer (some ⟨g, j, none⟩) := inv.done 11 _ 27 rfl rfl rfl
          have q28 : a'.tmps.getD 28 undef = uv zb := inv.done 12 _ 28 rfl rfl rfl
          have q29 : a'.tmps.getD 29 undef = Value.bool b0 := inv.done 13 _ 29 rfl rfl rfl
          have q30 : a'.tmps.getD 30 undef = Value.bool b0 := inv.done 14 _ 30 rfl rfl rfl
          clear inv
          simp only [List.filterMap_cons, List.filterMap_nil, Par.putAll, Act.put, List.setIfInBounds_toArray, List.set_cons_succ, List.set_cons_zero, q16, q17, q18, q19, q20, q21, q22, q23, q24, q25, q26, q27, q28, q29, q30]
          clear q16 q17 q18 q19 q20 q21 q22 q23 q24 q25 q26 q27 q28 q29 q30
          clear a'
          have HF2 := hid (HF.out.trans (Ext.fr hX))
          have HR2 := hid (hX.owns HR.out)
          clear hX HF HR
          cases b0
          case false =>
            have HO3 : Hid (insOuter ltU 0 n (k + 1) e = D) := hid (by have := HO.out; rw [HIN.out, HB0.out] at this; simpa using this)
            go_wp2
            go_roundw
            case rel => exact ⟨k + 1, e, by omega, by omega, by go_num, HS, HR2, HO3, HF2⟩
            case measure => simp [intOf]; omega
          case true =>
            have HO3 : Hid (insOuter ltU 0 n (k + 1) (insInner ltU 0 j (swp e (j + 1) j)) = D) := hid (by have := HO.out; rw [HIN.out, HB0.out] at this; simpa using this)
            have HSW : Hid ((swp e (j + 1) j).toList = (e.toList.set (j + 1) zb).set j za) := hid (by rw [swpU_list e j (by rw [HS.out]; exact HJN.out), HZA.out, HZB.out])
            have HSS : Hid ((swp e (j + 1) j).size = n) := hid (by unfold swp; simpa using HS.out)
            go_wp2_with fail
            refine ParE.wp_region_e (l := [_, _, _, _, _, _, _, _, _, _, _, _, _, _, _, _, _, _]) rfl (Rg.Ch [15, 17] [] (SwU w' B g n cap (j + 1) e.toList zb fun w4 => RowU w4 B g n cap ((e.toList.set (j + 1) zb).set j za) ∧ Fr [g] w' w4)) (ParC.VC [ParC.EQ (Value.slice (some ⟨g, 0, none⟩) n cap), ParC.EQ (Value.int IntKind.i64 ((j : Int) + 1)), ParC.EQ (Value.slice (some ⟨g, 0, none⟩) n cap), ParC.EQ (Value.int IntKind.i64 ((j : Int) + 1)), ParC.EQ (Value.int IntKind.i64 (j : Int)), ParC.EQ (Value.slice (some ⟨g, 0, none⟩) n cap), ParC.EQ (Value.int IntKind.i64 ((j : Int) + 1)), ParC.EQ (Value.int IntKind.i64 (j : Int)), ParC.EQ (Value.pointer (some ⟨g, j, none⟩)), ParC.EQ (uv zb), ParC.EQ (Value.slice (some ⟨g, 0, none⟩) n cap), ParC.EQ (Value.int IntKind.i64 ((j : Int) + 1)), ParC.EQ (Value.pointer (some ⟨g, j + 1, none⟩)), ParC.EQ (uv za), ParC.EQ (Value.pointer (some ⟨g, j + 1, none⟩)), fun _ => True, ParC.EQ (Value.pointer (some ⟨g, j, none⟩)), fun _ => True]) (by kernel_rfl) (by kernel_rfl) (Rg.Ch.start ⟨fun _ => Ext.draw _, trivial⟩) ?_ ?_
            · refine ⟨fun L ρ w' hR hC hL hd hk => ?_, ?_⟩
              · exact Par.val_of_run rfl ⟨hR.other (by decide), hk.1⟩
              refine ⟨fun L ρ w' hR hC hL hd hk => ?_, ?_⟩
              · exact Par.val_of_run rfl ⟨hR.other (by decide), hk.1⟩
              refine ⟨fun L ρ w' hR hC hL hd hk => ?_, ?_⟩
              · exact Par.val_of_run rfl ⟨hR.other (by decide), hk.1⟩
              refine ⟨fun L ρ w' hR hC hL hd hk => ?_, ?_⟩
              · exact Par.val_of_run rfl ⟨hR.other (by decide), hk.1⟩
              refine ⟨fun L ρ w' hR hC hL hd hk => ?_, ?_⟩
              · obtain ⟨k0, k1, -⟩ := hk
                have e0 : ρ (.tmp 36) = Value.int IntKind.i64 ((j : Int) + 1) := k0
                have e1 : ρ (Operand.const (Value.int IntKind.i64 1)) = (Value.int IntKind.i64 1) := k1
                clear k0 k1
                refine Par.val_k fun K hK => ?_
                unfold Par.val
                (have hwr : IntKind.i64.wrap (j : Int) = (j : Int) := IntWalk.i64_in _ (by omega); go_simp; exact hK _ _ ⟨hR.other (by decide), rfl⟩)
              refine ⟨fun L ρ w' hR hC hL hd hk => ?_, ?_⟩
              · exact Par.val_of_run rfl ⟨hR.other (by decide), hk.1⟩
              refine ⟨fun L ρ w' hR hC hL hd hk => ?_, ?_⟩
              · exact Par.val_of_run rfl ⟨hR.other (by decide), hk.1⟩
              refine ⟨fun L ρ w' hR hC hL hd hk => ?_, ?_⟩
              · obtain ⟨k0, k1, -⟩ := hk
                have e0 : ρ (.tmp 39) = Value.int IntKind.i64 ((j : Int) + 1) := k0
                have e1 : ρ (Operand.const (Value.int IntKind.i64 1)) = (Value.int IntKind.i64 1) := k1
                clear k0 k1
                refine Par.val_k fun K hK => ?_
                unfold Par.val
                (have hwr : IntKind.i64.wrap (j : Int) = (j : Int) := IntWalk.i64_in _ (by omega); go_simp; exact hK _ _ ⟨hR.other (by decide), rfl⟩)
              refine ⟨fun L ρ w' hR hC hL hd hk => ?_, ?_⟩
              · obtain ⟨k0, k1, -⟩ := hk
                have e0 : ρ (.tmp 38) = Value.slice (some ⟨g, 0, none⟩) n cap := k0
                have e1 : ρ (.tmp 40) = Value.int IntKind.i64 (j : Int) := k1
                clear k0 k1
                refine Par.val_k fun K hK => ?_
                unfold Par.val
                (go_simp; exact hK _ _ ⟨hR.other (by decide), rfl⟩)
              refine ⟨fun L ρ w' hR hC hL hd hk => ?_, ?_⟩
              · obtain ⟨k0, -⟩ := hk
                have e0 : ρ (.tmp 41) = Value.pointer (some ⟨g, j, none⟩) := k0
                clear k0
                refine Par.val_k fun K hK => ?_
                unfold Par.val
                (obtain ⟨i, hi, hq⟩ := hR.some 0 rfl (hC.notyet 15 9 hL (by kernel_rfl)); have cc := HCB.out _ ((hq.1 (by omega)).owns HR2.out); go_simp; exact hK _ _ ⟨hR.other (by decide), rfl⟩)
              refine ⟨fun L ρ w' hR hC hL hd hk => ?_, ?_⟩
              · exact Par.val_of_run rfl ⟨hR.other (by decide), hk.1⟩
              refine ⟨fun L ρ w' hR hC hL hd hk => ?_, ?_⟩
              · exact Par.val_of_run rfl ⟨hR.other (by decide), hk.1⟩
              refine ⟨fun L ρ w' hR hC hL hd hk => ?_, ?_⟩
              · obtain ⟨k0, k1, -⟩ := hk
                have e0 : ρ (.tmp 43) = Value.slice (some ⟨g, 0, none⟩) n cap := k0
                have e1 : ρ (.tmp 44) = Value.int IntKind.i64 ((j : Int) + 1) := k1
                clear k0 k1
                refine Par.val_k fun K hK => ?_
                unfold Par.val
                (go_simp; exact hK _ _ ⟨hR.other (by decide), rfl⟩)
              refine ⟨fun L ρ w' hR hC hL hd hk => ?_, ?_⟩
              · obtain ⟨k0, -⟩ := hk
                have e0 : ρ (.tmp 45) = Value.pointer (some ⟨g, j + 1, none⟩) := k0
                clear k0
                refine Par.val_k fun K hK => ?_
                unfold Par.val
                (obtain ⟨i, hi, hq⟩ := hR.some 0 rfl (hC.notyet 15 13 hL (by kernel_rfl)); have cc := HCA.out _ ((hq.1 (by omega)).owns HR2.out); go_simp; exact hK _ _ ⟨hR.other (by decide), rfl⟩)
              refine ⟨fun L ρ w' hR hC hL hd hk => ?_, ?_⟩
              · obtain ⟨k0, k1, -⟩ := hk
                have e0 : ρ (.tmp 33) = Value.slice (some ⟨g, 0, none⟩) n cap := k0
                have e1 : ρ (.tmp 34) = Value.int IntKind.i64 ((j : Int) + 1) := k1
                clear k0 k1
                refine Par.val_k fun K hK => ?_
                unfold Par.val
                (go_simp; exact hK _ _ ⟨hR.other (by decide), rfl⟩)
              refine ⟨fun L ρ w' hR hC hL hd hk => ?_, ?_⟩
              · obtain ⟨k0, k1, -⟩ := hk
                have e0 : ρ (.tmp 47) = Value.pointer (some ⟨g, j + 1, none⟩) := k0
                have e1 : ρ (.tmp 42) = uv zb := k1
                clear k0 k1
                refine Par.val_k fun K hK => ?_
                unfold Par.val
                (obtain ⟨hq, hs⟩ := hR.go 0 rfl hL (.inl rfl) (by decide); have hx := hq.1 (by decide); have hrow : RowU _ B g n cap e.toList := hx.owns HR2.out; have cc := HCA.out _ hrow; have ff := (hrow.at HES.out HJN.out).2; obtain ⟨hset, hfs⟩ := hrow.set (j + 1) zb; have HSET := hid hset; have HFS := hid hfs; clear hset hfs hrow; go_simp; exact hK _ _ ⟨hs none _ _ ⟨fun h => absurd h (by decide), HSET.out, (Ext.fr hx).trans HFS.out⟩, trivial⟩)
              refine ⟨fun L ρ w' hR hC hL hd hk => ?_, ?_⟩
              · obtain ⟨k0, k1, -⟩ := hk
                have e0 : ρ (.tmp 35) = Value.slice (some ⟨g, 0, none⟩) n cap := k0
                have e1 : ρ (.tmp 37) = Value.int IntKind.i64 (j : Int) := k1
                clear k0 k1
                refine Par.val_k fun K hK => ?_
                unfold Par.val
                (go_simp; exact hK _ _ ⟨hR.other (by decide), rfl⟩)
              refine ⟨fun L ρ w' hR hC hL hd hk => ?_, ?_⟩
              · obtain ⟨k0, k1, -⟩ := hk
                have e0 : ρ (.tmp 48) = Value.pointer (some ⟨g, j, none⟩) := k0
                have e1 : ρ (.tmp 46) = uv za := k1
                clear k0 k1
                refine Par.val_k fun K hK => ?_
                unfold Par.val
                (obtain ⟨hq, hs⟩ := hR.go 1 rfl hL (.inr ⟨15, rfl, hC.before 15 (i := 17) rfl hd (by kernel_rfl)⟩) (by decide); obtain ⟨hrow, hfr⟩ := hq.2; obtain ⟨u9, cc⟩ : ∃ u, w'.cell? ⟨g, j, none⟩ = some (uv u) := ⟨_, (hrow.at (by simp [HES.out]) (j := j) (by have := HJN.out; omega)).1⟩; have ff := (hrow.at (by simp [HES.out]) (j := j) (by have := HJN.out; omega)).2; obtain ⟨hset, hfs⟩ := RowU.set hrow j za; have HSET := hid hset; have HFS := hid hfs; have HFR := hid hfr; clear hset hfs hrow hfr; go_simp; exact hK _ _ ⟨hs none _ _ ⟨fun h => absurd h (by decide), HSET.out, HFR.out.trans HFS.out⟩, trivial⟩)
              trivial
            intro a' w' inv hR
            have q33 : a'.tmps.getD 33 undef = Value.slice (some ⟨g, 0, none⟩) n cap := inv.done 0 _ 33 rfl rfl rfl
            have q34 : a'.tmps.getD 34 undef = Value.int IntKind.i64 ((j : Int) + 1) := inv.done 1 _ 34 rfl rfl rfl
            have q35 : a'.tmps.getD 35 undef = Value.slice (some ⟨g, 0, none⟩) n cap := inv.done 2 _ 35 rfl rfl rfl
            have q36 : a'.tmps.getD 36 undef = Value.int IntKind.i64 ((j : Int) + 1) := inv.done 3 _ 36 rfl rfl rfl
            have q37 : a'.tmps.getD 37 undef = Value.int IntKind.i64 (j : Int) := inv.done 4 _ 37 rfl rfl rfl
            have q38 : a'.tmps.getD 38 undef = Value.slice (some ⟨g, 0, none⟩) n cap := inv.done 5 _ 38 rfl rfl rfl
            have q39 : a'.tmps.getD 39 undef = Value.int IntKind.i64 ((j : Int) + 1) := inv.done 6 _ 39 rfl rfl rfl
            have q40 : a'.tmps.getD 40 undef = Value.int IntKind.i64 (j : Int) := inv.done 7 _ 40 rfl rfl rfl
            have q41 : a'.tmps.getD 41 undef = Value.pointer (some ⟨g, j, none⟩) := inv.done 8 _ 41 rfl rfl rfl
            have q42 : a'.tmps.getD 42 undef = uv zb := inv.done 9 _ 42 rfl rfl rfl
            have q43 : a'.tmps.getD 43 undef = Value.slice (some ⟨g, 0, none⟩) n cap := inv.done 10 _ 43 rfl rfl rfl
            have q44 : a'.tmps.getD 44 undef = Value.int IntKind.i64 ((j : Int) + 1) := inv.done 11 _ 44 rfl rfl rfl
            have q45 : a'.tmps.getD 45 undef = Value.pointer (some ⟨g, j + 1, none⟩) := inv.done 12 _ 45 rfl rfl rfl
            have q46 : a'.tmps.getD 46 undef = uv za := inv.done 13 _ 46 rfl rfl rfl
            have q47 : a'.tmps.getD 47 undef = Value.pointer (some ⟨g, j + 1, none⟩) := inv.done 14 _ 47 rfl rfl rfl
            have q48 : a'.tmps.getD 48 undef = Value.pointer (some ⟨g, j, none⟩) := inv.done 16 _ 48 rfl rfl rfl
            clear inv
            simp only [List.filterMap_cons, List.filterMap_nil, Par.putAll, Act.put, List.setIfInBounds_toArray, List.set_cons_succ, List.set_cons_zero, q33, q34, q35, q36, q37, q38, q39, q40, q41, q42, q43, q44, q45, q46, q47, q48]
            clear q33 q34 q35 q36 q37 q38 q39 q40 q41 q42 q43 q44 q45 q46 q47 q48
            obtain ⟨-, hrd, hf⟩ := Rg.Ch.fin hR (by decide) 2 rfl; have HRD := hid hrd; have HF4 := hid hf; clear hrd hf hR
            try clear a'
            go_wp2
            go_roundw
            case rel => exact ⟨j, swp e (j + 1) j, by have := HJ.out; omega, by go_num, HSS, hid (by rw [HSW.out]; exact HRD.out), HO3, hid (HF2.out.trans HF4.out)⟩
            case measure => simp [intOf]
    · have HO2 : Hid (d = D) := hid (by have := HO.out; rw [insOuter, if_neg hlt] at this; exact this)
      go_wp2
      go_returns
      exact ⟨⟨_, rfl⟩, by have := HR.out; rw [HO2.out] at this; exact this, HF.out⟩
set_option maxRecDepth 100000 in
set_option maxHeartbeats 1000000 in
theorem pdqU_any {B : Nat} {w : World} (g n cap : Nat) (lim : Int) (l : List UInt64) (h : RowU w B g n cap l) (hn : l.length = n) (hn12 : n ≤ 12) :
    Calls Tryd.prog 27 #[.slice (some ⟨g, 0, none⟩) n cap, .int .i64 0, .int .i64 (n : Int), .int .i64 lim] w fun e w' =>
      (∃ u, e = .returned u) ∧ RowU w' B g n cap (insertionSort ltU l.toArray 0 n).toList ∧ Fr [g] w w' := by
  have HC := hid (insU_any g n cap l h hn hn12)
  clear h hn
  have e12 : decide ((n : Int) ≤ 12) = true := by simp; omega
  go_enter Tryd.func27, Tryd.ntmps27
  go_wp2
  go_loopw [1, 2] (fun a b wr => a = .int .i64 0 ∧ b = .int .i64 (n : Int) ∧ wr = w) (fun _ _ _ => 0)
  case atStart => exact ⟨rfl, rfl, rfl⟩
  case round =>
    obtain ⟨rfl, rfl, rfl⟩ := hrel
    go_wp2_with fail
    refine HC.out.mono ?_
    rintro e w1 ⟨⟨u, rfl⟩, hr, hf⟩
    have HR := hid hr
    have HF := hid hf
    clear hr hf
    go_wp2
    go_returns
    exact ⟨⟨_, rfl⟩, HR.out, HF.out⟩
set_option maxHeartbeats 1000000 in
theorem sortU_any {B : Nat} {w : World} (g n cap : Nat) (l : List UInt64) (h : RowU w B g n cap l) (hn : l.length = n) (hn12 : n ≤ 12) :
    Calls Tryd.prog 20 #[.slice (some ⟨g, 0, none⟩) n cap] w fun e w' => (∃ u, e = .returned u) ∧ RowU w' B g n cap (insertionSort ltU l.toArray 0 n).toList ∧ Fr [g] w w' := by
  have hc := fun lim => pdqU_any g n cap lim l h hn hn12
  have HC := hid hc
  have hbl : ∀ w2, Calls Tryd.prog 28 #[.int .u64 (n : Int)] w2 fun e w3 => (∃ k : Int, e = .returned (.int .i64 k)) ∧ w3 = w2 := fun w2 => (Tryd.bits_Len n w2 (by omega) (by omega)).mono fun _ _ hh => ⟨⟨_, hh.1⟩, hh.2⟩
  have HBL := hid hbl
  have hwu : IntKind.u64.wrap (n : Int) = (n : Int) := by rw [IntKind.wrap_u64]; omega
  clear h hc hn hbl
  go_enter Tryd.func20, Tryd.ntmps20
  go_wp2_with fail
  refine (HBL.out w).mono ?_
  rintro e w1 ⟨⟨k, rfl⟩, rfl⟩
  go_wp2_with fail
  refine (HC.out k).mono ?_
  rintro e w2 ⟨⟨u, rfl⟩, hr, hf⟩
  have HR := hid hr
  have HF := hid hf
  clear hr hf
  go_wp2
  go_returns
  exact ⟨⟨_, rfl⟩, HR.out, HF.out⟩
theorem ins_two (a b : UInt64) (h : b < a) : (insertionSort ltU #[a, b] 0 2).toList = [b, a] := by
  unfold insertionSort
  rw [insOuter, if_pos (by omega), insInner, insOuter, if_neg (by omega)]
  have : ltU (#[a, b] : Array UInt64)[0 + 1]! (#[a, b] : Array UInt64)[0]! = true := by
    show ltU b a = true
    simpa using h
  rw [this]
  simp [insInner, swp]
end Go.Proofs.YtekjflndblgegaaDoor
