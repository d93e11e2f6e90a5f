/- reverseRange of a row of numbers.
Rows of numbers, held by an array; comparing two of them; what a swap leaves.
insertionSort of a part of a row of numbers.
siftDown of a row of numbers.
heapSort of a part of a row of numbers. -/
import Derived.Test.YtmbigiihcplcjaaGreatDoorNamMA
import Derived.Test.YtmbigiihcplcjaaGreatDoorVec
import Derived.Test.YtmbigiihcplcjaaGreatDoorParE
import Derived.Test.YtmbigiihcplcjaaGreatDoorRgC
import Derived.Test.YtmbigiihcplcjaaGreatDoorFr
import Derived.Sort.WalkA
import Derived.Sort.LotA
import Derived.Handy
import Derived.Sort.LotB
set_option linter.unusedSimpArgs false
set_option linter.unusedVariables false
namespace Go.Proofs.YtmbigiihcplcjaaGreatDoor
open Go Go.RowKit Go.Tum Go.ChangeMaps Go.Sort

abbrev ltU (a b : UInt64) : Bool := decide (a < b)
theorem isNaN_any (a : UInt64) (w : World) : Calls Tryz.prog 150 #[uv a] w fun e w' => e = .returned (.bool false) ∧ w' = w := by
 have h : ((a.toNat : Int) != (a.toNat : Int)) = false := by simp
 go_enter Tryz.func150, Tryz.ntmps150
 go_wp2
 go_ret
 exact ⟨rfl, rfl⟩
theorem lessU_any (a b : UInt64) (w : World) : Calls Tryz.prog 121 #[uv a, uv b] w fun e w' => e = .returned (.bool (ltU a b)) ∧ w' = w := by
 have e1 : ltU a b = decide (a.toNat < b.toNat) := by unfold ltU; simp only [UInt64.lt_iff_toNat_lt]
 obtain ⟨c, hc⟩ : ∃ c, decide (a.toNat < b.toNat) = c := ⟨_, rfl⟩
 rw [e1, hc]
 clear e1
 go_enter Tryz.func121, Tryz.ntmps121
 go_wp2_with fail
 refine (isNaN_any a w).mono ?_
 rintro e w1 ⟨rfl, rfl⟩
 cases c <;> (go_wp2; go_ret; exact ⟨rfl, rfl⟩)
abbrev RowU (w : World) (B g n cap : Nat) (l : List UInt64) : Prop := w.ownsRow B 22 1 (.slice (some ⟨g, 0, none⟩) n cap) n (l.map uv)
theorem addU (g k : Nat) : (⟨g, 0, none⟩ : Addr).add k = ⟨g, k, none⟩ := by unfold Addr.add; split <;> simp_all
theorem RowU.at {w : World} {B g n cap : Nat} {l : List UInt64} (h : RowU w B g n cap l) (hn : l.length = n) {j : Nat} (hj : j < n) : w.cell? ⟨g, j, none⟩ = some (uv (l[j]'(by omega))) ∧ w.frozen? ⟨g, j, none⟩ = false := by
 refine ⟨?_, World.ownsRow.frozenAt h _⟩
 rw [World.ownsRow.cellAt h _ (by omega)]
 simp [show j < l.length by omega]
theorem RowU.set {w : World} {B g n cap : Nat} {l : List UInt64} (h : RowU w B g n cap l) (j : Nat) (z : UInt64) : RowU (w.setCell ⟨g, j, none⟩ (uv z)) B g n cap (l.set j z) ∧ Fr [g] w (w.setCell ⟨g, j, none⟩ (uv z)) := by
 have := (World.ownsRow.stored h j (uv z)).1
 refine ⟨?_, fr_setCell _ _ _ (by simp)⟩
 show World.ownsRow _ B _ 1 _ n ((l.set j z).map uv)
 rw [List.map_set]
 exact this
/-- A row of numbers whose cells an array tells. -/
structure RA (w : World) (B g n cap : Nat) (d : Array UInt64) : Prop where
 row : RowU w B g n cap d.toList
 size : d.size = n
theorem RA.at {w : World} {B g n cap : Nat} {d : Array UInt64} (h : RA w B g n cap d) {j : Nat} (hj : j < n) : w.cell? ⟨g, j, none⟩ = some (uv d[j]!) ∧ w.frozen? ⟨g, j, none⟩ = false := by
 have := h.row.at (by simpa using h.size) hj
 rw [getElem!_pos d j (by rw [h.size]; exact hj)]
 simpa using this
theorem RA.ext {w w' : World} {B g n cap : Nat} {d : Array UInt64} (hx : Ext w w') (h : RA w B g n cap d) : RA w' B g n cap d := ⟨hx.owns h.row, h.size⟩
theorem RA.set {w : World} {B g n cap : Nat} {d : Array UInt64} (h : RA w B g n cap d) (j : Nat) (z : UInt64) : RA (w.setCell ⟨g, j, none⟩ (uv z)) B g n cap (d.setIfInBounds j z) ∧ Fr [g] w (w.setCell ⟨g, j, none⟩ (uv z)) := by
 have := h.row.set j z
 exact ⟨⟨by simpa using this.1, by simpa using h.size⟩, this.2⟩
theorem RA.bound {w : World} {B g n cap : Nat} {d : Array UInt64} (h : RA w B g n cap d) : n ≤ cap ∧ cap ≤ 9223372036854775807 := by
 rcases h.row.2 with ⟨hv, -⟩ | ⟨g', cap', cur, hv, hb, hgg, h1, h2, -⟩
 · cases hv
 · cases hv; exact ⟨h1, by simpa [maxLen] using h2⟩
theorem cellV {B g n cap : Nat} (d : Array UInt64) (j : Nat) (hj : j < n) : ∃ z, Hid (d[j]! = z) ∧ Hid (∀ w', RA w' B g n cap d → w'.cell? ⟨g, j, none⟩ = some (uv z)) :=
 ⟨_, hid rfl, hid fun w' h => (h.at hj).1⟩
theorem RA.swp {w : World} {B g n cap i j : Nat} {d : Array UInt64} {zi zj : UInt64} (hi : Hid (d[i]! = zi)) (hj : Hid (d[j]! = zj)) (h : RA w B g n cap ((d.setIfInBounds i zj).setIfInBounds j zi)) : RA w B g n cap (Sort.swp d i j) := by
 unfold Sort.swp; rw [hi.out, hj.out]; exact h
def SwV (W : World) (B g n cap i j : Nat) (zi zj : UInt64) (d : Array UInt64) (k : Nat) (_ : Nat → Value) (w' : World) : Prop := (k < 1 → Ext W w') ∧ match k with
 | 1 => RA w' B g n cap (d.setIfInBounds i zj) ∧ Fr [g] W w'
 | 2 => RA w' B g n cap ((d.setIfInBounds i zj).setIfInBounds j zi) ∧ Fr [g] W w'
 | _ => True
theorem swoU : SWO ltU where
 irrefl x := by simp
 trans x y z := by simp only [ltU, decide_eq_true_eq, UInt64.lt_iff_toNat_lt]; omega
 ntrans x y z := by simp only [ltU, decide_eq_false_iff_not, UInt64.lt_iff_toNat_lt]; omega
theorem i64v {x : Int} (y : Nat) (h : x = (y : Int)) (hy : y < 9223372036854775808) : IntKind.i64.wrap x = (y : Int) := by rw [h]; exact IntWalk.i64_in _ (by omega)
/-- A number of the program that is a Nat. -/
theorem nameV (k : Nat) : ∃ q : Nat, q = k := ⟨k, rfl⟩
end Go.Proofs.YtmbigiihcplcjaaGreatDoor

set_option linter.unusedSimpArgs false
set_option linter.unusedVariables false
namespace Go.Proofs.YtmbigiihcplcjaaGreatDoor
open Go Go.RowKit Go.Tum Go.ChangeMaps Go.Sort
open Go.ParB (upd Lof)
open Go.ParE (putS slotsR slots Closed)

theorem insInner_stop (a j : Nat) (d : Array UInt64) (h : j ≤ a) : insInner ltU a j d = d := by
 cases j with
 | zero => rfl
 | succ j => rw [insInner, if_neg (by simp; omega)]
theorem insInner_go (a j q : Nat) (d : Array UInt64) (h : a < j) (hq : q + 1 = j) : insInner ltU a j d = if ltU d[j]! d[q]! then insInner ltU a q (swp d j q) else d := by
 subst hq
 rw [insInner]
 have : decide (q + 1 > a) = true := by simp; omega
 simp only [this, Bool.true_and]
set_option maxRecDepth 100000 in
set_option maxHeartbeats 2000000 in
theorem insV_any {B : Nat} {w : World} (g n cap a b : Nat) (d : Array UInt64) (h : RA w B g n cap d) (hab : a ≤ b) (hbn : b ≤ n) (hbig : n ≤ 4611686018427387904) :
 Calls Tryz.prog 115 #[.slice (some ⟨g, 0, none⟩) n cap, .int .i64 (a : Int), .int .i64 (b : Int)] w fun e w' =>
  (∃ u, e = .returned u) ∧ RA w' B g n cap (insertionSort ltU d a b) ∧ Fr [g] w w' := by
 obtain ⟨D, hD⟩ : ∃ D, insertionSort ltU d a b = D := ⟨_, rfl⟩
 have HD : Hid (insOuter ltU a b (a + 1) d = D) := hid hD
 rw [hD]
 have H0 := hid h
 obtain ⟨hcap1, hcap2⟩ := h.bound
 clear h hD
 have hwa : IntKind.i64.wrap ((a : Int) + 1) = ((a + 1 : Nat) : Int) := i64v _ (by omega) (by omega)
 go_enter Tryz.func115, Tryz.ntmps115
 go_wp2
 go_loopw [6] (fun iv wr => ∃ (k : Nat) (e : Array UInt64), a + 1 ≤ k ∧ k ≤ b + 1 ∧ iv = .int .i64 (k : Int) ∧ Hid (RA wr B g n cap e) ∧ Hid (insOuter ltU a b k e = D) ∧ Hid (Fr [g] w wr)) (fun iv _ => b + 1 - (intOf iv).toNat)
 case atStart => exact ⟨a + 1, d, by omega, by omega, by first | rfl | go_num, H0, HD, hid (Fr.refl _ _)⟩
 case round =>
  clear H0 HD hwa
  obtain ⟨k, d, hk1, hk2, rfl, HR, HO, HF⟩ := hrel
  have hwk : IntKind.i64.wrap ((k : Int) + 1) = ((k + 1 : Nat) : Int) := i64v _ (by omega) (by omega)
  by_cases hlt : k < b
  · have hki : (k : Int) < b := by omega
    have HK := hid (And.intro hlt hk1)
    have HO2 : Hid (insOuter ltU a b (k + 1) (insInner ltU a k d) = D) := hid (by have := HO.out; rw [insOuter, if_pos hlt] at this; exact this)
    go_wp2
    go_loopw [7] (fun jv w3 => ∃ (j : Nat) (e : Array UInt64), a ≤ j ∧ j ≤ k ∧ jv = .int .i64 (j : Int) ∧ Hid (RA w3 B g n cap e) ∧ Hid (insOuter ltU a b (k + 1) (insInner ltU a j e) = D) ∧ Hid (Fr [g] w w3)) (fun jv _ => (intOf jv).toNat)
    case atStart => exact ⟨k, d, by omega, by omega, rfl, HR, HO2, HF⟩
    case round =>
     clear HO2 HR HO HF
     obtain ⟨j, d, haj, hj, rfl, HR, HO, HF⟩ := hrel
     rcases Nat.lt_or_ge a j with hajl | hajg
     · obtain ⟨q, hq⟩ : ∃ q, q + 1 = j := ⟨j - 1, by omega⟩
       have hcmp : decide ((a : Int) < (j : Int)) = true := by simp; omega
       have hwq : IntKind.i64.wrap ((j : Int) - 1) = (q : Int) := i64v _ (by omega) (by omega)
       have hjn : j < n := by omega
       have hjn2 : (j : Int) < n := by omega
       have hqn : q < n := by omega
       have hqn2 : (q : Int) < n := by omega
       obtain ⟨zj, Hzj, HCzj⟩ := cellV (B := B) (g := g) (n := n) (cap := cap) d j (by omega)
       obtain ⟨zq, Hzq, HCzq⟩ := cellV (B := B) (g := g) (n := n) (cap := cap) d q (by omega)
       obtain ⟨b0, Hb0⟩ : ∃ b, Hid (ltU zj zq = b) := ⟨_, hid rfl⟩
       have HIN : Hid (insInner ltU a j d = if b0 then insInner ltU a q (swp d j q) else d) := hid (by rw [insInner_go a j q d hajl hq, Hzj.out, Hzq.out, Hb0.out])
       have HQ := hid hq
       clear hq
       go_wp2_with fail
       refine Par.wp_region_par (l := [_, _, _, _, _, _, _, _, _, _, _, _, _, _, _]) rfl Ext (Par.VL [Par.EQ (Value.int IntKind.i64 (j : Int)), Par.EQ (Value.int IntKind.i64 (a : Int)), Par.EQ (Value.bool true), Par.EQ (Value.bool true), Par.EQ (Value.slice (some ⟨g, 0, none⟩) n cap), Par.EQ (Value.int IntKind.i64 (j : Int)), Par.EQ (Value.pointer (some ⟨g, j, none⟩)), Par.EQ (uv zj), Par.EQ (Value.slice (some ⟨g, 0, none⟩) n cap), Par.EQ (Value.int IntKind.i64 (j : Int)), Par.EQ (Value.int IntKind.i64 (q : Int)), Par.EQ (Value.pointer (some ⟨g, q, none⟩)), Par.EQ (uv zq), Par.EQ (Value.bool b0), Par.EQ (Value.bool b0)]) (by kernel_rfl) Ext.refl (fun _ _ _ h1 h2 => Ext.trans h1 h2) (Ext.draw _) (Par.VL_stab ?_) ?_ ?_
       · simp only [List.forall_mem_cons, List.not_mem_nil, false_implies, implies_true, and_true]
         refine ⟨fun _ _ _ _ h => h, fun _ _ _ _ h => h, fun _ _ _ _ h => h, fun _ _ _ _ h => h, fun _ _ _ _ h => h, fun _ _ _ _ h => h, fun _ _ _ _ h => h, fun _ _ _ _ h => h, fun _ _ _ _ h => h, fun _ _ _ _ h => h, fun _ _ _ _ h => h, fun _ _ _ _ h => h, fun _ _ _ _ h => h, fun _ _ _ _ h => h, fun _ _ _ _ h => h⟩
       · refine ⟨⟨fun _ _ => trivial, fun ρ w' hX hG hk => ?_⟩, ?_⟩
         · exact Par.val_of_run rfl ⟨Ext.refl _, hk.1⟩
         refine ⟨⟨fun _ _ => trivial, fun ρ w' hX hG hk => ?_⟩, ?_⟩
         · exact Par.val_of_run rfl ⟨Ext.refl _, hk.1⟩
         refine ⟨⟨fun _ _ => trivial, fun ρ w' hX hG hk => ?_⟩, ?_⟩
         · obtain ⟨(e0 : ρ (.tmp 16) = Value.int IntKind.i64 (j : Int)), (e1 : ρ (.tmp 17) = Value.int IntKind.i64 (a : Int)), -⟩ := hk; refine Par.val_k fun K hK => ?_; unfold Par.val
           (go_simp; exact hK _ _ ⟨Ext.refl _, rfl⟩)
         refine ⟨⟨fun _ _ => trivial, fun ρ w' hX hG hk => ?_⟩, ?_⟩
         · exact Par.val_of_run rfl ⟨Ext.refl _, hk.1⟩
         refine ⟨⟨fun _ _ u hu => .inl hu, fun ρ w' hX hG hk => ?_⟩, ?_⟩
         · exact Par.val_of_run rfl ⟨Ext.refl _, hk.1⟩
         refine ⟨⟨fun _ _ u hu => .inl hu, fun ρ w' hX hG hk => ?_⟩, ?_⟩
         · exact Par.val_of_run rfl ⟨Ext.refl _, hk.1⟩
         refine ⟨⟨fun _ _ u hu => .inl hu, fun ρ w' hX hG hk => ?_⟩, ?_⟩
         · obtain ⟨(e0 : ρ (.tmp 20) = Value.slice (some ⟨g, 0, none⟩) n cap), (e1 : ρ (.tmp 21) = Value.int IntKind.i64 (j : Int)), -⟩ := hk; refine Par.val_k fun K hK => ?_; unfold Par.val
           (go_simp; exact hK _ _ ⟨Ext.refl _, rfl⟩)
         refine ⟨⟨fun _ _ u hu => .inl hu, fun ρ w' hX hG hk => ?_⟩, ?_⟩
         · obtain ⟨(e0 : ρ (.tmp 22) = Value.pointer (some ⟨g, j, none⟩)), -⟩ := hk; refine Par.val_k fun K hK => ?_; unfold Par.val
           (have cc := HCzj.out _ (RA.ext hX HR.out); go_simp; exact hK _ _ ⟨Ext.refl _, rfl⟩)
         refine ⟨⟨fun _ _ u hu => .inl hu, fun ρ w' hX hG hk => ?_⟩, ?_⟩
         · exact Par.val_of_run rfl ⟨Ext.refl _, hk.1⟩
         refine ⟨⟨fun _ _ u hu => .inl hu, fun ρ w' hX hG hk => ?_⟩, ?_⟩
         · exact Par.val_of_run rfl ⟨Ext.refl _, hk.1⟩
         refine ⟨⟨fun _ _ u hu => .inl hu, fun ρ w' hX hG hk => ?_⟩, ?_⟩
         · obtain ⟨(e0 : ρ (.tmp 25) = Value.int IntKind.i64 (j : Int)), (e1 : ρ (Operand.const (Value.int IntKind.i64 1)) = (Value.int IntKind.i64 1)), -⟩ := hk; refine Par.val_k fun K hK => ?_; unfold Par.val
           (go_simp; exact hK _ _ ⟨Ext.refl _, rfl⟩)
         refine ⟨⟨fun _ _ u hu => .inl hu, fun ρ w' hX hG hk => ?_⟩, ?_⟩
         · obtain ⟨(e0 : ρ (.tmp 24) = Value.slice (some ⟨g, 0, none⟩) n cap), (e1 : ρ (.tmp 26) = Value.int IntKind.i64 (q : Int)), -⟩ := hk; refine Par.val_k fun K hK => ?_; unfold Par.val
           (go_simp; exact hK _ _ ⟨Ext.refl _, rfl⟩)
         refine ⟨⟨fun _ _ u hu => .inl hu, fun ρ w' hX hG hk => ?_⟩, ?_⟩
         · obtain ⟨(e0 : ρ (.tmp 27) = Value.pointer (some ⟨g, q, none⟩)), -⟩ := hk; refine Par.val_k fun K hK => ?_; unfold Par.val
           (have cc := HCzq.out _ (RA.ext hX HR.out); go_simp; exact hK _ _ ⟨Ext.refl _, rfl⟩)
         refine ⟨⟨fun _ _ u hu => .inl hu, fun ρ w' hX hG hk => ?_⟩, ?_⟩
         · obtain ⟨e0, (e1 : ρ (.tmp 23) = uv zj), (e2 : ρ (.tmp 28) = uv zq), -⟩ := hk; refine Par.val_k fun K hK => ?_; unfold Par.val
           refine Par.val_call Tryz.func121 (by kernel_rfl) rfl e0 ?_
           simp only [List.map_toArray, List.map_cons, List.map_nil, e1, e2]
           refine (lessU_any zj zq _).mono ?_
           rintro e w2 ⟨rfl, rfl⟩
           exact ⟨_, rfl, hK _ _ ⟨Ext.refl _, (congrArg Value.bool Hb0.out)⟩⟩
         refine ⟨⟨fun _ _ => trivial, fun ρ w' hX hG hk => ?_⟩, ?_⟩
         · obtain ⟨(e0 : ρ (.tmp 19) = Value.bool true), (e1 : ρ (.tmp 29) = Value.bool b0), (e2 : ρ (Operand.const (Value.bool false)) = (Value.bool false)), -⟩ := hk; refine Par.val_k fun K hK => ?_; unfold Par.val
           (go_simp; exact hK _ _ ⟨Ext.refl _, rfl⟩)
         trivial
       intro a' w' inv
       have hX := inv.ext
       have q16 : a'.tmps.getD 16 undef = Value.int IntKind.i64 (j : Int) := inv.done 0 _ 16 rfl rfl rfl
       have q17 : a'.tmps.getD 17 undef = Value.int IntKind.i64 (a : Int) := inv.done 1 _ 17 rfl rfl rfl
       have q18 : a'.tmps.getD 18 undef = Value.bool true := inv.done 2 _ 18 rfl rfl rfl
       have q19 : a'.tmps.getD 19 undef = Value.bool true := inv.done 3 _ 19 rfl rfl rfl
       have q20 : a'.tmps.getD 20 undef = Value.slice (some ⟨g, 0, none⟩) n cap := inv.done 4 _ 20 rfl rfl rfl
       have q21 : a'.tmps.getD 21 undef = Value.int IntKind.i64 (j : Int) := inv.done 5 _ 21 rfl rfl rfl
       have q22 : a'.tmps.getD 22 undef = Value.pointer (some ⟨g, j, none⟩) := inv.done 6 _ 22 rfl rfl rfl
       have q23 : a'.tmps.getD 23 undef = uv zj := inv.done 7 _ 23 rfl rfl rfl
       have q24 : a'.tmps.getD 24 undef = Value.slice (some ⟨g, 0, none⟩) n cap := inv.done 8 _ 24 rfl rfl rfl
       have q25 : a'.tmps.getD 25 undef = Value.int IntKind.i64 (j : Int) := inv.done 9 _ 25 rfl rfl rfl
       have q26 : a'.tmps.getD 26 undef = Value.int IntKind.i64 (q : Int) := inv.done 10 _ 26 rfl rfl rfl
       have q27 : a'.tmps.getD 27 undef = Value.pointer (some ⟨g, q, none⟩) := inv.done 11 _ 27 rfl rfl rfl
       have q28 : a'.tmps.getD 28 undef = uv zq := inv.done 12 _ 28 rfl rfl rfl
       have q29 : a'.tmps.getD 29 undef = Value.bool b0 := inv.done 13 _ 29 rfl rfl rfl
       have q30 : a'.tmps.getD 30 undef = Value.bool b0 := inv.done 14 _ 30 rfl rfl rfl
       clear inv
       simp only [List.filterMap_cons, List.filterMap_nil, Par.putAll, Act.put, List.setIfInBounds_toArray, List.set_cons_succ, List.set_cons_zero, q16, q17, q18, q19, q20, q21, q22, q23, q24, q25, q26, q27, q28, q29, q30]
       clear q16 q17 q18 q19 q20 q21 q22 q23 q24 q25 q26 q27 q28 q29 q30
       clear a'
       have HF2 := hid (HF.out.trans (Ext.fr hX))
       have HR2 := hid (RA.ext hX HR.out)
       clear hX HF HR
       have HF := HF2
       have HR := HR2
       clear HF2 HR2
       cases b0
       case false =>
        have HO3 : Hid (insOuter ltU a b (k + 1) d = D) := hid (by have := HO.out; rw [HIN.out] at this; simpa using this)
        clear hcmp
        go_wp2
        go_roundw
        case rel => exact ⟨k + 1, d, by omega, by omega, by first | rfl | go_num, HR, HO3, HF⟩
        case measure => simp [intOf] <;> omega
       case true =>
        have HO3 : Hid (insOuter ltU a b (k + 1) (insInner ltU a q (swp d j q)) = D) := hid (by have := HO.out; rw [HIN.out] at this; simpa using this)
        go_wp2_with fail
        refine ParE.wp_region_e (l := [_, _, _, _, _, _, _, _, _, _, _, _, _, _, _, _, _, _]) rfl (Rg.Ch [15, 17] [] (SwV _ B g n cap j q zj zq d)) (ParC.VC [ParC.EQ (Value.slice (some ⟨g, 0, none⟩) n cap), ParC.EQ (Value.int IntKind.i64 (j : Int)), ParC.EQ (Value.slice (some ⟨g, 0, none⟩) n cap), ParC.EQ (Value.int IntKind.i64 (j : Int)), ParC.EQ (Value.int IntKind.i64 (q : Int)), ParC.EQ (Value.slice (some ⟨g, 0, none⟩) n cap), ParC.EQ (Value.int IntKind.i64 (j : Int)), ParC.EQ (Value.int IntKind.i64 (q : Int)), ParC.EQ (Value.pointer (some ⟨g, q, none⟩)), ParC.EQ (uv zq), ParC.EQ (Value.slice (some ⟨g, 0, none⟩) n cap), ParC.EQ (Value.int IntKind.i64 (j : Int)), ParC.EQ (Value.pointer (some ⟨g, j, none⟩)), ParC.EQ (uv zj), ParC.EQ (Value.pointer (some ⟨g, j, none⟩)), fun _ => True, ParC.EQ (Value.pointer (some ⟨g, q, none⟩)), fun _ => True]) (by kernel_rfl) (by kernel_rfl) (Rg.Ch.start ⟨fun _ => Ext.draw _, trivial⟩) ?_ ?_
        · refine ⟨fun L ρ w' hR hC hL hd hk => ?_, ?_⟩
          · exact Par.val_of_run rfl ⟨hR.other (by decide), hk.1⟩
          refine ⟨fun L ρ w' hR hC hL hd hk => ?_, ?_⟩
          · exact Par.val_of_run rfl ⟨hR.other (by decide), hk.1⟩
          refine ⟨fun L ρ w' hR hC hL hd hk => ?_, ?_⟩
          · exact Par.val_of_run rfl ⟨hR.other (by decide), hk.1⟩
          refine ⟨fun L ρ w' hR hC hL hd hk => ?_, ?_⟩
          · exact Par.val_of_run rfl ⟨hR.other (by decide), hk.1⟩
          refine ⟨fun L ρ w' hR hC hL hd hk => ?_, ?_⟩
          · obtain ⟨(e0 : ρ (.tmp 36) = Value.int IntKind.i64 (j : Int)), (e1 : ρ (Operand.const (Value.int IntKind.i64 1)) = (Value.int IntKind.i64 1)), -⟩ := hk; refine Par.val_k fun K hK => ?_; unfold Par.val
            (go_simp; exact hK _ _ ⟨hR.other (by decide), rfl⟩)
          refine ⟨fun L ρ w' hR hC hL hd hk => ?_, ?_⟩
          · exact Par.val_of_run rfl ⟨hR.other (by decide), hk.1⟩
          refine ⟨fun L ρ w' hR hC hL hd hk => ?_, ?_⟩
          · exact Par.val_of_run rfl ⟨hR.other (by decide), hk.1⟩
          refine ⟨fun L ρ w' hR hC hL hd hk => ?_, ?_⟩
          · obtain ⟨(e0 : ρ (.tmp 39) = Value.int IntKind.i64 (j : Int)), (e1 : ρ (Operand.const (Value.int IntKind.i64 1)) = (Value.int IntKind.i64 1)), -⟩ := hk; refine Par.val_k fun K hK => ?_; unfold Par.val
            (go_simp; exact hK _ _ ⟨hR.other (by decide), rfl⟩)
          refine ⟨fun L ρ w' hR hC hL hd hk => ?_, ?_⟩
          · obtain ⟨(e0 : ρ (.tmp 38) = Value.slice (some ⟨g, 0, none⟩) n cap), (e1 : ρ (.tmp 40) = Value.int IntKind.i64 (q : Int)), -⟩ := hk; refine Par.val_k fun K hK => ?_; unfold Par.val
            (go_simp; exact hK _ _ ⟨hR.other (by decide), rfl⟩)
          refine ⟨fun L ρ w' hR hC hL hd hk => ?_, ?_⟩
          · obtain ⟨(e0 : ρ (.tmp 41) = Value.pointer (some ⟨g, q, none⟩)), -⟩ := hk; refine Par.val_k fun K hK => ?_; unfold Par.val
            (obtain ⟨ii, hii, hq⟩ := hR.some 0 rfl (hC.notyet 15 9 hL (by kernel_rfl)); have cc := HCzq.out _ (RA.ext (hq.1 (by omega)) HR.out); go_simp; exact hK _ _ ⟨hR.other (by decide), rfl⟩)
          refine ⟨fun L ρ w' hR hC hL hd hk => ?_, ?_⟩
          · exact Par.val_of_run rfl ⟨hR.other (by decide), hk.1⟩
          refine ⟨fun L ρ w' hR hC hL hd hk => ?_, ?_⟩
          · exact Par.val_of_run rfl ⟨hR.other (by decide), hk.1⟩
          refine ⟨fun L ρ w' hR hC hL hd hk => ?_, ?_⟩
          · obtain ⟨(e0 : ρ (.tmp 43) = Value.slice (some ⟨g, 0, none⟩) n cap), (e1 : ρ (.tmp 44) = Value.int IntKind.i64 (j : Int)), -⟩ := hk; refine Par.val_k fun K hK => ?_; unfold Par.val
            (go_simp; exact hK _ _ ⟨hR.other (by decide), rfl⟩)
          refine ⟨fun L ρ w' hR hC hL hd hk => ?_, ?_⟩
          · obtain ⟨(e0 : ρ (.tmp 45) = Value.pointer (some ⟨g, j, none⟩)), -⟩ := hk; refine Par.val_k fun K hK => ?_; unfold Par.val
            (obtain ⟨ii, hii, hq⟩ := hR.some 0 rfl (hC.notyet 15 13 hL (by kernel_rfl)); have cc := HCzj.out _ (RA.ext (hq.1 (by omega)) HR.out); go_simp; exact hK _ _ ⟨hR.other (by decide), rfl⟩)
          refine ⟨fun L ρ w' hR hC hL hd hk => ?_, ?_⟩
          · obtain ⟨(e0 : ρ (.tmp 33) = Value.slice (some ⟨g, 0, none⟩) n cap), (e1 : ρ (.tmp 34) = Value.int IntKind.i64 (j : Int)), -⟩ := hk; refine Par.val_k fun K hK => ?_; unfold Par.val
            (go_simp; exact hK _ _ ⟨hR.other (by decide), rfl⟩)
          refine ⟨fun L ρ w' hR hC hL hd hk => ?_, ?_⟩
          · obtain ⟨(e0 : ρ (.tmp 47) = Value.pointer (some ⟨g, j, none⟩)), (e1 : ρ (.tmp 42) = uv zq), -⟩ := hk; refine Par.val_k fun K hK => ?_; unfold Par.val
            (obtain ⟨hq, hs⟩ := hR.go 0 rfl hL (.inl rfl) (by decide); have hx := hq.1 (by decide); have hrow := RA.ext hx HR.out; obtain ⟨cc, ff⟩ := hrow.at (j := j) (by omega); obtain ⟨hset, hfs⟩ := hrow.set j zq; have HSET := hid hset; have HFS := hid hfs; clear hset hfs hrow; go_simp; exact hK _ _ ⟨hs none _ _ ⟨fun h => absurd h (by decide), HSET.out, (Ext.fr hx).trans HFS.out⟩, trivial⟩)
          refine ⟨fun L ρ w' hR hC hL hd hk => ?_, ?_⟩
          · obtain ⟨(e0 : ρ (.tmp 35) = Value.slice (some ⟨g, 0, none⟩) n cap), (e1 : ρ (.tmp 37) = Value.int IntKind.i64 (q : Int)), -⟩ := hk; refine Par.val_k fun K hK => ?_; unfold Par.val
            (go_simp; exact hK _ _ ⟨hR.other (by decide), rfl⟩)
          refine ⟨fun L ρ w' hR hC hL hd hk => ?_, ?_⟩
          · obtain ⟨(e0 : ρ (.tmp 48) = Value.pointer (some ⟨g, q, none⟩)), (e1 : ρ (.tmp 46) = uv zj), -⟩ := hk; refine Par.val_k fun K hK => ?_; unfold Par.val
            (obtain ⟨hq, hs⟩ := hR.go 1 rfl hL (.inr ⟨15, rfl, hC.before 15 (i := 17) rfl hd (by kernel_rfl)⟩) (by decide); obtain ⟨hrow, hfr⟩ := hq.2; obtain ⟨cc, ff⟩ := hrow.at (j := q) (by omega); obtain ⟨hset, hfs⟩ := hrow.set q zj; have HSET := hid hset; have HFS := hid hfs; have HFR := hid hfr; clear hset hfs hrow hfr; go_simp; exact hK _ _ ⟨hs none _ _ ⟨fun h => absurd h (by decide), HSET.out, HFR.out.trans HFS.out⟩, trivial⟩)
          trivial
        intro a' w' inv hR
        have q33 : a'.tmps.getD 33 undef = Value.slice (some ⟨g, 0, none⟩) n cap := inv.done 0 _ 33 rfl rfl rfl
        have q34 : a'.tmps.getD 34 undef = Value.int IntKind.i64 (j : Int) := inv.done 1 _ 34 rfl rfl rfl
        have q35 : a'.tmps.getD 35 undef = Value.slice (some ⟨g, 0, none⟩) n cap := inv.done 2 _ 35 rfl rfl rfl
        have q36 : a'.tmps.getD 36 undef = Value.int IntKind.i64 (j : Int) := inv.done 3 _ 36 rfl rfl rfl
        have q37 : a'.tmps.getD 37 undef = Value.int IntKind.i64 (q : Int) := inv.done 4 _ 37 rfl rfl rfl
        have q38 : a'.tmps.getD 38 undef = Value.slice (some ⟨g, 0, none⟩) n cap := inv.done 5 _ 38 rfl rfl rfl
        have q39 : a'.tmps.getD 39 undef = Value.int IntKind.i64 (j : Int) := inv.done 6 _ 39 rfl rfl rfl
        have q40 : a'.tmps.getD 40 undef = Value.int IntKind.i64 (q : Int) := inv.done 7 _ 40 rfl rfl rfl
        have q41 : a'.tmps.getD 41 undef = Value.pointer (some ⟨g, q, none⟩) := inv.done 8 _ 41 rfl rfl rfl
        have q42 : a'.tmps.getD 42 undef = uv zq := inv.done 9 _ 42 rfl rfl rfl
        have q43 : a'.tmps.getD 43 undef = Value.slice (some ⟨g, 0, none⟩) n cap := inv.done 10 _ 43 rfl rfl rfl
        have q44 : a'.tmps.getD 44 undef = Value.int IntKind.i64 (j : Int) := inv.done 11 _ 44 rfl rfl rfl
        have q45 : a'.tmps.getD 45 undef = Value.pointer (some ⟨g, j, none⟩) := inv.done 12 _ 45 rfl rfl rfl
        have q46 : a'.tmps.getD 46 undef = uv zj := inv.done 13 _ 46 rfl rfl rfl
        have q47 : a'.tmps.getD 47 undef = Value.pointer (some ⟨g, j, none⟩) := inv.done 14 _ 47 rfl rfl rfl
        have q48 : a'.tmps.getD 48 undef = Value.pointer (some ⟨g, q, none⟩) := inv.done 16 _ 48 rfl rfl rfl
        clear inv
        simp only [List.filterMap_cons, List.filterMap_nil, Par.putAll, Act.put, List.setIfInBounds_toArray, List.set_cons_succ, List.set_cons_zero, q33, q34, q35, q36, q37, q38, q39, q40, q41, q42, q43, q44, q45, q46, q47, q48]
        clear q33 q34 q35 q36 q37 q38 q39 q40 q41 q42 q43 q44 q45 q46 q47 q48
        obtain ⟨-, hrd, hf⟩ := Rg.Ch.fin hR (by decide) 2 rfl; have HRD := hid hrd; have HF4 := hid hf; clear hrd hf hR
        try clear a'
        have HR3 := hid (RA.swp Hzj Hzq HRD.out)
        have HF3 := hid (HF.out.trans HF4.out)
        clear HRD HF4 HR HF
        have HR := HR3
        have HF := HF3
        clear HR3 HF3
        go_wp2
        go_roundw
        case rel => exact ⟨q, swp d j q, by have := HQ.out; omega, by have := HQ.out; omega, by first | rfl | go_num, HR, HO3, HF⟩
        case measure => simp [intOf]; have := HQ.out; omega
     · have HO3 : Hid (insOuter ltU a b (k + 1) d = D) := hid (by have := HO.out; rw [insInner_stop a j d hajg] at this; exact this)
       have hcmp : (a < j) = False := by simp; omega
       go_wp2_with fail
       refine Par.wp_region_par (l := [_, _, _, _, _, _, _, _, _, _, _, _, _, _, _]) rfl Ext (Par.VL [Par.EQ (Value.int IntKind.i64 (j : Int)), Par.EQ (Value.int IntKind.i64 (a : Int)), Par.EQ (Value.bool false), Par.EQ (Value.bool false), Par.EQ (undef), Par.EQ (undef), Par.EQ (undef), Par.EQ (undef), Par.EQ (undef), Par.EQ (undef), Par.EQ (undef), Par.EQ (undef), Par.EQ (undef), Par.EQ (undef), Par.EQ (Value.bool false)]) (by kernel_rfl) Ext.refl (fun _ _ _ h1 h2 => Ext.trans h1 h2) (Ext.draw _) (Par.VL_stab ?_) ?_ ?_
       · simp only [List.forall_mem_cons, List.not_mem_nil, false_implies, implies_true, and_true]
         refine ⟨fun _ _ _ _ h => h, fun _ _ _ _ h => h, fun _ _ _ _ h => h, fun _ _ _ _ h => h, fun _ _ _ _ h => h, fun _ _ _ _ h => h, fun _ _ _ _ h => h, fun _ _ _ _ h => h, fun _ _ _ _ h => h, fun _ _ _ _ h => h, fun _ _ _ _ h => h, fun _ _ _ _ h => h, fun _ _ _ _ h => h, fun _ _ _ _ h => h, fun _ _ _ _ h => h⟩
       · refine ⟨⟨fun _ _ => trivial, fun ρ w' hX hG hk => ?_⟩, ?_⟩
         · exact Par.val_of_run rfl ⟨Ext.refl _, hk.1⟩
         refine ⟨⟨fun _ _ => trivial, fun ρ w' hX hG hk => ?_⟩, ?_⟩
         · exact Par.val_of_run rfl ⟨Ext.refl _, hk.1⟩
         refine ⟨⟨fun _ _ => trivial, fun ρ w' hX hG hk => ?_⟩, ?_⟩
         · obtain ⟨(e0 : ρ (.tmp 16) = Value.int IntKind.i64 (j : Int)), (e1 : ρ (.tmp 17) = Value.int IntKind.i64 (a : Int)), -⟩ := hk; refine Par.val_k fun K hK => ?_; unfold Par.val
           (go_simp; exact hK _ _ ⟨Ext.refl _, rfl⟩)
         refine ⟨⟨fun _ _ => trivial, fun ρ w' hX hG hk => ?_⟩, ?_⟩
         · exact Par.val_of_run rfl ⟨Ext.refl _, hk.1⟩
         refine ⟨⟨fun _ _ u hu => .inr rfl, fun ρ w' hX hG hk => ?_⟩, ?_⟩
         · cases hG
         refine ⟨⟨fun _ _ u hu => .inr rfl, fun ρ w' hX hG hk => ?_⟩, ?_⟩
         · cases hG
         refine ⟨⟨fun _ _ u hu => .inr rfl, fun ρ w' hX hG hk => ?_⟩, ?_⟩
         · cases hG
         refine ⟨⟨fun _ _ u hu => .inr rfl, fun ρ w' hX hG hk => ?_⟩, ?_⟩
         · cases hG
         refine ⟨⟨fun _ _ u hu => .inr rfl, fun ρ w' hX hG hk => ?_⟩, ?_⟩
         · cases hG
         refine ⟨⟨fun _ _ u hu => .inr rfl, fun ρ w' hX hG hk => ?_⟩, ?_⟩
         · cases hG
         refine ⟨⟨fun _ _ u hu => .inr rfl, fun ρ w' hX hG hk => ?_⟩, ?_⟩
         · cases hG
         refine ⟨⟨fun _ _ u hu => .inr rfl, fun ρ w' hX hG hk => ?_⟩, ?_⟩
         · cases hG
         refine ⟨⟨fun _ _ u hu => .inr rfl, fun ρ w' hX hG hk => ?_⟩, ?_⟩
         · cases hG
         refine ⟨⟨fun _ _ u hu => .inr rfl, fun ρ w' hX hG hk => ?_⟩, ?_⟩
         · cases hG
         refine ⟨⟨fun _ _ => trivial, fun ρ w' hX hG hk => ?_⟩, ?_⟩
         · obtain ⟨(e0 : ρ (.tmp 19) = Value.bool false), (e1 : ρ (.tmp 29) = undef), (e2 : ρ (Operand.const (Value.bool false)) = (Value.bool false)), -⟩ := hk; refine Par.val_k fun K hK => ?_; unfold Par.val
           (go_simp; exact hK _ _ ⟨Ext.refl _, rfl⟩)
         trivial
       intro a' w' inv
       have hX := inv.ext
       have q16 : a'.tmps.getD 16 undef = Value.int IntKind.i64 (j : Int) := inv.done 0 _ 16 rfl rfl rfl
       have q17 : a'.tmps.getD 17 undef = Value.int IntKind.i64 (a : Int) := inv.done 1 _ 17 rfl rfl rfl
       have q18 : a'.tmps.getD 18 undef = Value.bool false := inv.done 2 _ 18 rfl rfl rfl
       have q19 : a'.tmps.getD 19 undef = Value.bool false := inv.done 3 _ 19 rfl rfl rfl
       have q20 : a'.tmps.getD 20 undef = undef := inv.done 4 _ 20 rfl rfl rfl
       have q21 : a'.tmps.getD 21 undef = undef := inv.done 5 _ 21 rfl rfl rfl
       have q22 : a'.tmps.getD 22 undef = undef := inv.done 6 _ 22 rfl rfl rfl
       have q23 : a'.tmps.getD 23 undef = undef := inv.done 7 _ 23 rfl rfl rfl
       have q24 : a'.tmps.getD 24 undef = undef := inv.done 8 _ 24 rfl rfl rfl
       have q25 : a'.tmps.getD 25 undef = undef := inv.done 9 _ 25 rfl rfl rfl
       have q26 : a'.tmps.getD 26 undef = undef := inv.done 10 _ 26 rfl rfl rfl
       have q27 : a'.tmps.getD 27 undef = undef := inv.done 11 _ 27 rfl rfl rfl
       have q28 : a'.tmps.getD 28 undef = undef := inv.done 12 _ 28 rfl rfl rfl
       have q29 : a'.tmps.getD 29 undef = undef := inv.done 13 _ 29 rfl rfl rfl
       have q30 : a'.tmps.getD 30 undef = Value.bool false := inv.done 14 _ 30 rfl rfl rfl
       clear inv
       simp only [List.filterMap_cons, List.filterMap_nil, Par.putAll, Act.put, List.setIfInBounds_toArray, List.set_cons_succ, List.set_cons_zero, q16, q17, q18, q19, q20, q21, q22, q23, q24, q25, q26, q27, q28, q29, q30]
       clear q16 q17 q18 q19 q20 q21 q22 q23 q24 q25 q26 q27 q28 q29 q30
       clear a'
       have HF2 := hid (HF.out.trans (Ext.fr hX))
       have HR2 := hid (RA.ext hX HR.out)
       clear hX HF HR
       have HF := HF2
       have HR := HR2
       clear HF2 HR2
       clear hcmp
       go_wp2
       go_roundw
       case rel => exact ⟨k + 1, d, by omega, by omega, by first | rfl | go_num, HR, HO3, HF⟩
       case measure => simp [intOf] <;> omega
  · have HO2 : Hid (d = D) := hid (by have := HO.out; rw [insOuter, if_neg hlt] at this; exact this)
    go_wp2
    go_returns
    exact ⟨⟨_, rfl⟩, by have := HR.out; rw [HO2.out] at this; exact this, HF.out⟩
end Go.Proofs.YtmbigiihcplcjaaGreatDoor

set_option linter.unusedSimpArgs false
set_option linter.unusedVariables false
namespace Go.Proofs.YtmbigiihcplcjaaGreatDoor
open Go Go.RowKit Go.Tum Go.ChangeMaps Go.Sort
open Go.ParB (upd Lof)
open Go.ParE (putS slotsR slots Closed)

theorem sift_stop (hi first root : Nat) (d : Array UInt64) (h : hi ≤ 2 * root + 1) : siftDown ltU hi first root d = d := by
 rw [siftDown, dif_pos h]
theorem sift_left {hi first root c i0 i1 : Nat} (d : Array UInt64) (hc : c = 2 * root + 1) (h0 : i0 = first + root) (h1 : i1 = first + c) (h : c < hi) (hn : c + 1 < hi → ltU d[i1]! d[i1 + 1]! = false) :
 siftDown ltU hi first root d = if ltU d[i0]! d[i1]! then siftDown ltU hi first c (swp d i0 i1) else d := by
 subst hc h0 h1
 rw [siftDown, dif_neg (by omega), if_neg]
 · cases ltU d[first + root]! d[first + (2 * root + 1)]! <;> simp
 · intro hh
   rw [Bool.and_eq_true, decide_eq_true_eq] at hh
   have := hn hh.1
   rw [hh.2] at this
   cases this
theorem sift_right {hi first root c c2 i0 i1 i2 : Nat} (d : Array UInt64) (hc : c = 2 * root + 1) (hc2 : c2 = c + 1) (h0 : i0 = first + root) (h1 : i1 = first + c) (h2 : i2 = i1 + 1) (h : c2 < hi) (hn : ltU d[i1]! d[i2]! = true) :
 siftDown ltU hi first root d = if ltU d[i0]! d[i2]! then siftDown ltU hi first c2 (swp d i0 i2) else d := by
 subst hc hc2 h0 h1 h2
 rw [siftDown, dif_neg (by omega), if_pos]
 · rw [dif_pos (show 2 * root + 2 < hi by omega)]
   have e : first + (2 * root + 1) + 1 = first + (2 * root + 2) := by omega
   rw [e]
   cases ltU d[first + root]! d[first + (2 * root + 2)]! <;> simp
 · rw [Bool.and_eq_true, decide_eq_true_eq]
   exact ⟨by omega, hn⟩
set_option maxRecDepth 100000 in
set_option maxHeartbeats 2000000 in
theorem siftV_any {B : Nat} {w : World} (g n cap lo hi first : Nat) (d : Array UInt64) (h : RA w B g n cap d) (hlo : lo ≤ n) (hfn : first + hi ≤ n) (hbig : n ≤ 4611686018427387903) :
 Calls Tryz.prog 145 #[.slice (some ⟨g, 0, none⟩) n cap, .int .i64 (lo : Int), .int .i64 (hi : Int), .int .i64 (first : Int)] w fun e w' =>
  (∃ u, e = .returned u) ∧ RA w' B g n cap (siftDown ltU hi first lo d) ∧ Fr [g] w w' := by
 obtain ⟨D, hD⟩ : ∃ D, siftDown ltU hi first lo d = D := ⟨_, rfl⟩
 have HD := hid hD
 rw [hD]
 have H0 := hid h
 obtain ⟨hcap1, hcap2⟩ := h.bound
 clear h hD
 go_enter Tryz.func145, Tryz.ntmps145
 go_wp2
 go_loopw [8] (fun iv wr => ∃ (root : Nat) (e : Array UInt64), root ≤ n ∧ iv = .int .i64 (root : Int) ∧ Hid (RA wr B g n cap e) ∧ Hid (siftDown ltU hi first root e = D) ∧ Hid (Fr [g] w wr)) (fun iv _ => n + 1 - (intOf iv).toNat)
 case atStart => exact ⟨lo, d, hlo, by first | rfl | go_num, H0, HD, hid (Fr.refl _ _)⟩
 case round =>
  clear H0 HD
  obtain ⟨root, d, hrn, rfl, HR, HO, HF⟩ := hrel
  obtain ⟨m, hm⟩ : ∃ m, m = 2 * root := ⟨_, rfl⟩
  obtain ⟨c, hc⟩ : ∃ c, c = 2 * root + 1 := ⟨_, rfl⟩
  have hwm : IntKind.i64.wrap (2 * (root : Int)) = (m : Int) := i64v _ (by omega) (by omega)
  have hwc : IntKind.i64.wrap ((m : Int) + 1) = (c : Int) := i64v _ (by omega) (by omega)
  rcases Nat.lt_or_ge c hi with hci | hci
  · obtain ⟨c2, hc2⟩ : ∃ c2, c2 = c + 1 := ⟨_, rfl⟩
    obtain ⟨i0, hi0⟩ : ∃ i0, i0 = first + root := ⟨_, rfl⟩
    obtain ⟨i1, hi1⟩ : ∃ i1, i1 = first + c := ⟨_, rfl⟩
    obtain ⟨i2, hi2⟩ : ∃ i2, i2 = i1 + 1 := ⟨_, rfl⟩
    have hwc2 : IntKind.i64.wrap ((c : Int) + 1) = (c2 : Int) := i64v _ (by omega) (by omega)
    have hwi0 : IntKind.i64.wrap ((first : Int) + (root : Int)) = (i0 : Int) := i64v _ (by omega) (by omega)
    have hwi1 : IntKind.i64.wrap ((first : Int) + (c : Int)) = (i1 : Int) := i64v _ (by omega) (by omega)
    have hwi2 : IntKind.i64.wrap ((i1 : Int) + 1) = (i2 : Int) := i64v _ (by omega) (by omega)
    have hwi3 : IntKind.i64.wrap ((first : Int) + (c2 : Int)) = (i2 : Int) := i64v _ (by omega) (by omega)
    have hi0n : i0 < n := by omega
    have hi0m : (i0 : Int) < n := by omega
    have hi1n : i1 < n := by omega
    have hi1m : (i1 : Int) < n := by omega
    have hcn : c ≤ n := by omega
    have hge : (hi ≤ c) = False := by simp; omega
    obtain ⟨z0, Hz0, HCz0⟩ := cellV (B := B) (g := g) (n := n) (cap := cap) d i0 (by omega)
    obtain ⟨z1, Hz1, HCz1⟩ := cellV (B := B) (g := g) (n := n) (cap := cap) d i1 (by omega)
    have HE := hid (And.intro hc (And.intro hc2 (And.intro hi0 (And.intro hi1 (And.intro hi2 hm)))))
    rcases Nat.lt_or_ge c2 hi with hc2i | hc2i
    · have hi2n : i2 < n := by omega
      have hi2m : (i2 : Int) < n := by omega
      have hc2n : c2 ≤ n := by omega
      obtain ⟨z2, Hz2, HCz2⟩ := cellV (B := B) (g := g) (n := n) (cap := cap) d i2 (by omega)
      obtain ⟨b0, Hb0⟩ : ∃ b, Hid (ltU z1 z2 = b) := ⟨_, hid rfl⟩
      clear hc hc2 hi0 hi1 hi2 hm
      go_wp2_with fail
      refine Par.wp_region_par (l := [_, _, _, _, _, _, _, _, _, _, _, _, _, _, _, _, _, _, _, _]) rfl Ext (Par.VL [Par.EQ (Value.int IntKind.i64 (c : Int)), Par.EQ (Value.int IntKind.i64 (c2 : Int)), Par.EQ (Value.int IntKind.i64 (hi : Int)), Par.EQ (Value.bool true), Par.EQ (Value.bool true), Par.EQ (Value.slice (some ⟨g, 0, none⟩) n cap), Par.EQ (Value.int IntKind.i64 (first : Int)), Par.EQ (Value.int IntKind.i64 (c : Int)), Par.EQ (Value.int IntKind.i64 (i1 : Int)), Par.EQ (Value.pointer (some ⟨g, i1, none⟩)), Par.EQ (uv z1), Par.EQ (Value.slice (some ⟨g, 0, none⟩) n cap), Par.EQ (Value.int IntKind.i64 (first : Int)), Par.EQ (Value.int IntKind.i64 (c : Int)), Par.EQ (Value.int IntKind.i64 (i1 : Int)), Par.EQ (Value.int IntKind.i64 (i2 : Int)), Par.EQ (Value.pointer (some ⟨g, i2, none⟩)), Par.EQ (uv z2), Par.EQ (Value.bool b0), Par.EQ (Value.bool b0)]) (by kernel_rfl) Ext.refl (fun _ _ _ h1 h2 => Ext.trans h1 h2) (Ext.draw _) (Par.VL_stab ?_) ?_ ?_
      · simp only [List.forall_mem_cons, List.not_mem_nil, false_implies, implies_true, and_true]
        refine ⟨fun _ _ _ _ h => h, fun _ _ _ _ h => h, fun _ _ _ _ h => h, fun _ _ _ _ h => h, fun _ _ _ _ h => h, fun _ _ _ _ h => h, fun _ _ _ _ h => h, fun _ _ _ _ h => h, fun _ _ _ _ h => h, fun _ _ _ _ h => h, fun _ _ _ _ h => h, fun _ _ _ _ h => h, fun _ _ _ _ h => h, fun _ _ _ _ h => h, fun _ _ _ _ h => h, fun _ _ _ _ h => h, fun _ _ _ _ h => h, fun _ _ _ _ h => h, fun _ _ _ _ h => h, fun _ _ _ _ h => h⟩
      · refine ⟨⟨fun _ _ => trivial, fun ρ w' hX hG hk => ?_⟩, ?_⟩
        · exact Par.val_of_run rfl ⟨Ext.refl _, hk.1⟩
        refine ⟨⟨fun _ _ => trivial, fun ρ w' hX hG hk => ?_⟩, ?_⟩
        · obtain ⟨(e0 : ρ (.tmp 17) = Value.int IntKind.i64 (c : Int)), (e1 : ρ (Operand.const (Value.int IntKind.i64 1)) = (Value.int IntKind.i64 1)), -⟩ := hk; refine Par.val_k fun K hK => ?_; unfold Par.val
          (go_simp; exact hK _ _ ⟨Ext.refl _, rfl⟩)
        refine ⟨⟨fun _ _ => trivial, fun ρ w' hX hG hk => ?_⟩, ?_⟩
        · exact Par.val_of_run rfl ⟨Ext.refl _, hk.1⟩
        refine ⟨⟨fun _ _ => trivial, fun ρ w' hX hG hk => ?_⟩, ?_⟩
        · obtain ⟨(e0 : ρ (.tmp 18) = Value.int IntKind.i64 (c2 : Int)), (e1 : ρ (.tmp 19) = Value.int IntKind.i64 (hi : Int)), -⟩ := hk; refine Par.val_k fun K hK => ?_; unfold Par.val
          (go_simp; exact hK _ _ ⟨Ext.refl _, rfl⟩)
        refine ⟨⟨fun _ _ => trivial, fun ρ w' hX hG hk => ?_⟩, ?_⟩
        · exact Par.val_of_run rfl ⟨Ext.refl _, hk.1⟩
        refine ⟨⟨fun _ _ u hu => .inl hu, fun ρ w' hX hG hk => ?_⟩, ?_⟩
        · exact Par.val_of_run rfl ⟨Ext.refl _, hk.1⟩
        refine ⟨⟨fun _ _ u hu => .inl hu, fun ρ w' hX hG hk => ?_⟩, ?_⟩
        · exact Par.val_of_run rfl ⟨Ext.refl _, hk.1⟩
        refine ⟨⟨fun _ _ u hu => .inl hu, fun ρ w' hX hG hk => ?_⟩, ?_⟩
        · exact Par.val_of_run rfl ⟨Ext.refl _, hk.1⟩
        refine ⟨⟨fun _ _ u hu => .inl hu, fun ρ w' hX hG hk => ?_⟩, ?_⟩
        · obtain ⟨(e0 : ρ (.tmp 23) = Value.int IntKind.i64 (first : Int)), (e1 : ρ (.tmp 24) = Value.int IntKind.i64 (c : Int)), -⟩ := hk; refine Par.val_k fun K hK => ?_; unfold Par.val
          (go_simp; exact hK _ _ ⟨Ext.refl _, rfl⟩)
        refine ⟨⟨fun _ _ u hu => .inl hu, fun ρ w' hX hG hk => ?_⟩, ?_⟩
        · obtain ⟨(e0 : ρ (.tmp 22) = Value.slice (some ⟨g, 0, none⟩) n cap), (e1 : ρ (.tmp 25) = Value.int IntKind.i64 (i1 : Int)), -⟩ := hk; refine Par.val_k fun K hK => ?_; unfold Par.val
          (go_simp; exact hK _ _ ⟨Ext.refl _, rfl⟩)
        refine ⟨⟨fun _ _ u hu => .inl hu, fun ρ w' hX hG hk => ?_⟩, ?_⟩
        · obtain ⟨(e0 : ρ (.tmp 26) = Value.pointer (some ⟨g, i1, none⟩)), -⟩ := hk; refine Par.val_k fun K hK => ?_; unfold Par.val
          (have cc := HCz1.out _ (RA.ext hX HR.out); go_simp; exact hK _ _ ⟨Ext.refl _, rfl⟩)
        refine ⟨⟨fun _ _ u hu => .inl hu, fun ρ w' hX hG hk => ?_⟩, ?_⟩
        · exact Par.val_of_run rfl ⟨Ext.refl _, hk.1⟩
        refine ⟨⟨fun _ _ u hu => .inl hu, fun ρ w' hX hG hk => ?_⟩, ?_⟩
        · exact Par.val_of_run rfl ⟨Ext.refl _, hk.1⟩
        refine ⟨⟨fun _ _ u hu => .inl hu, fun ρ w' hX hG hk => ?_⟩, ?_⟩
        · exact Par.val_of_run rfl ⟨Ext.refl _, hk.1⟩
        refine ⟨⟨fun _ _ u hu => .inl hu, fun ρ w' hX hG hk => ?_⟩, ?_⟩
        · obtain ⟨(e0 : ρ (.tmp 29) = Value.int IntKind.i64 (first : Int)), (e1 : ρ (.tmp 30) = Value.int IntKind.i64 (c : Int)), -⟩ := hk; refine Par.val_k fun K hK => ?_; unfold Par.val
          (go_simp; exact hK _ _ ⟨Ext.refl _, rfl⟩)
        refine ⟨⟨fun _ _ u hu => .inl hu, fun ρ w' hX hG hk => ?_⟩, ?_⟩
        · obtain ⟨(e0 : ρ (.tmp 31) = Value.int IntKind.i64 (i1 : Int)), (e1 : ρ (Operand.const (Value.int IntKind.i64 1)) = (Value.int IntKind.i64 1)), -⟩ := hk; refine Par.val_k fun K hK => ?_; unfold Par.val
          (go_simp; exact hK _ _ ⟨Ext.refl _, rfl⟩)
        refine ⟨⟨fun _ _ u hu => .inl hu, fun ρ w' hX hG hk => ?_⟩, ?_⟩
        · obtain ⟨(e0 : ρ (.tmp 28) = Value.slice (some ⟨g, 0, none⟩) n cap), (e1 : ρ (.tmp 32) = Value.int IntKind.i64 (i2 : Int)), -⟩ := hk; refine Par.val_k fun K hK => ?_; unfold Par.val
          (go_simp; exact hK _ _ ⟨Ext.refl _, rfl⟩)
        refine ⟨⟨fun _ _ u hu => .inl hu, fun ρ w' hX hG hk => ?_⟩, ?_⟩
        · obtain ⟨(e0 : ρ (.tmp 33) = Value.pointer (some ⟨g, i2, none⟩)), -⟩ := hk; refine Par.val_k fun K hK => ?_; unfold Par.val
          (have cc := HCz2.out _ (RA.ext hX HR.out); go_simp; exact hK _ _ ⟨Ext.refl _, rfl⟩)
        refine ⟨⟨fun _ _ u hu => .inl hu, fun ρ w' hX hG hk => ?_⟩, ?_⟩
        · obtain ⟨e0, (e1 : ρ (.tmp 27) = uv z1), (e2 : ρ (.tmp 34) = uv z2), -⟩ := hk; refine Par.val_k fun K hK => ?_; unfold Par.val
          refine Par.val_call Tryz.func121 (by kernel_rfl) rfl e0 ?_
          simp only [List.map_toArray, List.map_cons, List.map_nil, e1, e2]
          refine (lessU_any z1 z2 _).mono ?_
          rintro e w2 ⟨rfl, rfl⟩
          exact ⟨_, rfl, hK _ _ ⟨Ext.refl _, (congrArg Value.bool Hb0.out)⟩⟩
        refine ⟨⟨fun _ _ => trivial, fun ρ w' hX hG hk => ?_⟩, ?_⟩
        · obtain ⟨(e0 : ρ (.tmp 21) = Value.bool true), (e1 : ρ (.tmp 35) = Value.bool b0), (e2 : ρ (Operand.const (Value.bool false)) = (Value.bool false)), -⟩ := hk; refine Par.val_k fun K hK => ?_; unfold Par.val
          (go_simp; exact hK _ _ ⟨Ext.refl _, rfl⟩)
        trivial
      intro a' w' inv
      have hX := inv.ext
      have q17 : a'.tmps.getD 17 undef = Value.int IntKind.i64 (c : Int) := inv.done 0 _ 17 rfl rfl rfl
      have q18 : a'.tmps.getD 18 undef = Value.int IntKind.i64 (c2 : Int) := inv.done 1 _ 18 rfl rfl rfl
      have q19 : a'.tmps.getD 19 undef = Value.int IntKind.i64 (hi : Int) := inv.done 2 _ 19 rfl rfl rfl
      have q20 : a'.tmps.getD 20 undef = Value.bool true := inv.done 3 _ 20 rfl rfl rfl
      have q21 : a'.tmps.getD 21 undef = Value.bool true := inv.done 4 _ 21 rfl rfl rfl
      have q22 : a'.tmps.getD 22 undef = Value.slice (some ⟨g, 0, none⟩) n cap := inv.done 5 _ 22 rfl rfl rfl
      have q23 : a'.tmps.getD 23 undef = Value.int IntKind.i64 (first : Int) := inv.done 6 _ 23 rfl rfl rfl
      have q24 : a'.tmps.getD 24 undef = Value.int IntKind.i64 (c : Int) := inv.done 7 _ 24 rfl rfl rfl
      have q25 : a'.tmps.getD 25 undef = Value.int IntKind.i64 (i1 : Int) := inv.done 8 _ 25 rfl rfl rfl
      have q26 : a'.tmps.getD 26 undef = Value.pointer (some ⟨g, i1, none⟩) := inv.done 9 _ 26 rfl rfl rfl
      have q27 : a'.tmps.getD 27 undef = uv z1 := inv.done 10 _ 27 rfl rfl rfl
      have q28 : a'.tmps.getD 28 undef = Value.slice (some ⟨g, 0, none⟩) n cap := inv.done 11 _ 28 rfl rfl rfl
      have q29 : a'.tmps.getD 29 undef = Value.int IntKind.i64 (first : Int) := inv.done 12 _ 29 rfl rfl rfl
      have q30 : a'.tmps.getD 30 undef = Value.int IntKind.i64 (c : Int) := inv.done 13 _ 30 rfl rfl rfl
      have q31 : a'.tmps.getD 31 undef = Value.int IntKind.i64 (i1 : Int) := inv.done 14 _ 31 rfl rfl rfl
      have q32 : a'.tmps.getD 32 undef = Value.int IntKind.i64 (i2 : Int) := inv.done 15 _ 32 rfl rfl rfl
      have q33 : a'.tmps.getD 33 undef = Value.pointer (some ⟨g, i2, none⟩) := inv.done 16 _ 33 rfl rfl rfl
      have q34 : a'.tmps.getD 34 undef = uv z2 := inv.done 17 _ 34 rfl rfl rfl
      have q35 : a'.tmps.getD 35 undef = Value.bool b0 := inv.done 18 _ 35 rfl rfl rfl
      have q36 : a'.tmps.getD 36 undef = Value.bool b0 := inv.done 19 _ 36 rfl rfl rfl
      clear inv
      simp only [List.filterMap_cons, List.filterMap_nil, Par.putAll, Act.put, List.setIfInBounds_toArray, List.set_cons_succ, List.set_cons_zero, q17, q18, q19, q20, q21, q22, q23, q24, q25, q26, q27, q28, q29, q30, q31, q32, q33, q34, q35, q36]
      clear q17 q18 q19 q20 q21 q22 q23 q24 q25 q26 q27 q28 q29 q30 q31 q32 q33 q34 q35 q36
      clear a'
      have HF2 := hid (HF.out.trans (Ext.fr hX))
      have HR2 := hid (RA.ext hX HR.out)
      clear hX HF HR
      have HF := HF2
      have HR := HR2
      clear HF2 HR2
      cases b0
      case true =>
       obtain ⟨b1, Hb1⟩ : ∃ b, Hid (ltU z0 z2 = b) := ⟨_, hid rfl⟩
       have HIN : Hid (siftDown ltU hi first root d = if b1 then siftDown ltU hi first c2 (swp d i0 i2) else d) := hid (by rw [sift_right d HE.out.1 HE.out.2.1 HE.out.2.2.1 HE.out.2.2.2.1 HE.out.2.2.2.2.1 hc2i (by rw [Hz1.out, Hz2.out]; exact Hb0.out), Hz0.out, Hz2.out, Hb1.out])
       go_wp2_with fail
       refine Par.wp_region_par (l := [_, _, _, _, _, _, _, _, _, _, _, _, _, _]) rfl Ext (Par.VL [Par.EQ (Value.slice (some ⟨g, 0, none⟩) n cap), Par.EQ (Value.int IntKind.i64 (first : Int)), Par.EQ (Value.int IntKind.i64 (root : Int)), Par.EQ (Value.int IntKind.i64 (i0 : Int)), Par.EQ (Value.pointer (some ⟨g, i0, none⟩)), Par.EQ (uv z0), Par.EQ (Value.slice (some ⟨g, 0, none⟩) n cap), Par.EQ (Value.int IntKind.i64 (first : Int)), Par.EQ (Value.int IntKind.i64 (c2 : Int)), Par.EQ (Value.int IntKind.i64 (i2 : Int)), Par.EQ (Value.pointer (some ⟨g, i2, none⟩)), Par.EQ (uv z2), Par.EQ (Value.bool b1), Par.EQ (Value.bool (!b1))]) (by kernel_rfl) Ext.refl (fun _ _ _ h1 h2 => Ext.trans h1 h2) (Ext.draw _) (Par.VL_stab ?_) ?_ ?_
       · simp only [List.forall_mem_cons, List.not_mem_nil, false_implies, implies_true, and_true]
         refine ⟨fun _ _ _ _ h => h, fun _ _ _ _ h => h, fun _ _ _ _ h => h, fun _ _ _ _ h => h, fun _ _ _ _ h => h, fun _ _ _ _ h => h, fun _ _ _ _ h => h, fun _ _ _ _ h => h, fun _ _ _ _ h => h, fun _ _ _ _ h => h, fun _ _ _ _ h => h, fun _ _ _ _ h => h, fun _ _ _ _ h => h, fun _ _ _ _ h => h⟩
       · refine ⟨⟨fun _ _ => trivial, fun ρ w' hX hG hk => ?_⟩, ?_⟩
         · exact Par.val_of_run rfl ⟨Ext.refl _, hk.1⟩
         refine ⟨⟨fun _ _ => trivial, fun ρ w' hX hG hk => ?_⟩, ?_⟩
         · exact Par.val_of_run rfl ⟨Ext.refl _, hk.1⟩
         refine ⟨⟨fun _ _ => trivial, fun ρ w' hX hG hk => ?_⟩, ?_⟩
         · exact Par.val_of_run rfl ⟨Ext.refl _, hk.1⟩
         refine ⟨⟨fun _ _ => trivial, fun ρ w' hX hG hk => ?_⟩, ?_⟩
         · obtain ⟨(e0 : ρ (.tmp 40) = Value.int IntKind.i64 (first : Int)), (e1 : ρ (.tmp 41) = Value.int IntKind.i64 (root : Int)), -⟩ := hk; refine Par.val_k fun K hK => ?_; unfold Par.val
           (go_simp; exact hK _ _ ⟨Ext.refl _, rfl⟩)
         refine ⟨⟨fun _ _ => trivial, fun ρ w' hX hG hk => ?_⟩, ?_⟩
         · obtain ⟨(e0 : ρ (.tmp 39) = Value.slice (some ⟨g, 0, none⟩) n cap), (e1 : ρ (.tmp 42) = Value.int IntKind.i64 (i0 : Int)), -⟩ := hk; refine Par.val_k fun K hK => ?_; unfold Par.val
           (go_simp; exact hK _ _ ⟨Ext.refl _, rfl⟩)
         refine ⟨⟨fun _ _ => trivial, fun ρ w' hX hG hk => ?_⟩, ?_⟩
         · obtain ⟨(e0 : ρ (.tmp 43) = Value.pointer (some ⟨g, i0, none⟩)), -⟩ := hk; refine Par.val_k fun K hK => ?_; unfold Par.val
           (have cc := HCz0.out _ (RA.ext hX HR.out); go_simp; exact hK _ _ ⟨Ext.refl _, rfl⟩)
         refine ⟨⟨fun _ _ => trivial, fun ρ w' hX hG hk => ?_⟩, ?_⟩
         · exact Par.val_of_run rfl ⟨Ext.refl _, hk.1⟩
         refine ⟨⟨fun _ _ => trivial, fun ρ w' hX hG hk => ?_⟩, ?_⟩
         · exact Par.val_of_run rfl ⟨Ext.refl _, hk.1⟩
         refine ⟨⟨fun _ _ => trivial, fun ρ w' hX hG hk => ?_⟩, ?_⟩
         · exact Par.val_of_run rfl ⟨Ext.refl _, hk.1⟩
         refine ⟨⟨fun _ _ => trivial, fun ρ w' hX hG hk => ?_⟩, ?_⟩
         · obtain ⟨(e0 : ρ (.tmp 46) = Value.int IntKind.i64 (first : Int)), (e1 : ρ (.tmp 47) = Value.int IntKind.i64 (c2 : Int)), -⟩ := hk; refine Par.val_k fun K hK => ?_; unfold Par.val
           (go_simp; exact hK _ _ ⟨Ext.refl _, rfl⟩)
         refine ⟨⟨fun _ _ => trivial, fun ρ w' hX hG hk => ?_⟩, ?_⟩
         · obtain ⟨(e0 : ρ (.tmp 45) = Value.slice (some ⟨g, 0, none⟩) n cap), (e1 : ρ (.tmp 48) = Value.int IntKind.i64 (i2 : Int)), -⟩ := hk; refine Par.val_k fun K hK => ?_; unfold Par.val
           (go_simp; exact hK _ _ ⟨Ext.refl _, rfl⟩)
         refine ⟨⟨fun _ _ => trivial, fun ρ w' hX hG hk => ?_⟩, ?_⟩
         · obtain ⟨(e0 : ρ (.tmp 49) = Value.pointer (some ⟨g, i2, none⟩)), -⟩ := hk; refine Par.val_k fun K hK => ?_; unfold Par.val
           (have cc := HCz2.out _ (RA.ext hX HR.out); go_simp; exact hK _ _ ⟨Ext.refl _, rfl⟩)
         refine ⟨⟨fun _ _ => trivial, fun ρ w' hX hG hk => ?_⟩, ?_⟩
         · obtain ⟨e0, (e1 : ρ (.tmp 44) = uv z0), (e2 : ρ (.tmp 50) = uv z2), -⟩ := hk; refine Par.val_k fun K hK => ?_; unfold Par.val
           refine Par.val_call Tryz.func121 (by kernel_rfl) rfl e0 ?_
           simp only [List.map_toArray, List.map_cons, List.map_nil, e1, e2]
           refine (lessU_any z0 z2 _).mono ?_
           rintro e w2 ⟨rfl, rfl⟩
           exact ⟨_, rfl, hK _ _ ⟨Ext.refl _, (congrArg Value.bool Hb1.out)⟩⟩
         refine ⟨⟨fun _ _ => trivial, fun ρ w' hX hG hk => ?_⟩, ?_⟩
         · obtain ⟨(e0 : ρ (.tmp 51) = Value.bool b1), -⟩ := hk; refine Par.val_k fun K hK => ?_; unfold Par.val
           (go_simp; exact hK _ _ ⟨Ext.refl _, rfl⟩)
         trivial
       intro a' w' inv
       have hX := inv.ext
       have q39 : a'.tmps.getD 39 undef = Value.slice (some ⟨g, 0, none⟩) n cap := inv.done 0 _ 39 rfl rfl rfl
       have q40 : a'.tmps.getD 40 undef = Value.int IntKind.i64 (first : Int) := inv.done 1 _ 40 rfl rfl rfl
       have q41 : a'.tmps.getD 41 undef = Value.int IntKind.i64 (root : Int) := inv.done 2 _ 41 rfl rfl rfl
       have q42 : a'.tmps.getD 42 undef = Value.int IntKind.i64 (i0 : Int) := inv.done 3 _ 42 rfl rfl rfl
       have q43 : a'.tmps.getD 43 undef = Value.pointer (some ⟨g, i0, none⟩) := inv.done 4 _ 43 rfl rfl rfl
       have q44 : a'.tmps.getD 44 undef = uv z0 := inv.done 5 _ 44 rfl rfl rfl
       have q45 : a'.tmps.getD 45 undef = Value.slice (some ⟨g, 0, none⟩) n cap := inv.done 6 _ 45 rfl rfl rfl
       have q46 : a'.tmps.getD 46 undef = Value.int IntKind.i64 (first : Int) := inv.done 7 _ 46 rfl rfl rfl
       have q47 : a'.tmps.getD 47 undef = Value.int IntKind.i64 (c2 : Int) := inv.done 8 _ 47 rfl rfl rfl
       have q48 : a'.tmps.getD 48 undef = Value.int IntKind.i64 (i2 : Int) := inv.done 9 _ 48 rfl rfl rfl
       have q49 : a'.tmps.getD 49 undef = Value.pointer (some ⟨g, i2, none⟩) := inv.done 10 _ 49 rfl rfl rfl
       have q50 : a'.tmps.getD 50 undef = uv z2 := inv.done 11 _ 50 rfl rfl rfl
       have q51 : a'.tmps.getD 51 undef = Value.bool b1 := inv.done 12 _ 51 rfl rfl rfl
       have q52 : a'.tmps.getD 52 undef = Value.bool (!b1) := inv.done 13 _ 52 rfl rfl rfl
       clear inv
       simp only [List.filterMap_cons, List.filterMap_nil, Par.putAll, Act.put, List.setIfInBounds_toArray, List.set_cons_succ, List.set_cons_zero, q39, q40, q41, q42, q43, q44, q45, q46, q47, q48, q49, q50, q51, q52]
       clear q39 q40 q41 q42 q43 q44 q45 q46 q47 q48 q49 q50 q51 q52
       clear a'
       have HF2 := hid (HF.out.trans (Ext.fr hX))
       have HR2 := hid (RA.ext hX HR.out)
       clear hX HF HR
       have HF := HF2
       have HR := HR2
       clear HF2 HR2
       cases b1
       case false =>
        have HO3 : Hid (d = D) := hid (by have := HO.out; rw [HIN.out] at this; simpa using this)
        go_wp2
        go_returns
        exact ⟨⟨_, rfl⟩, by have := HR.out; rw [HO3.out] at this; exact this, HF.out⟩
       case true =>
        have HO3 : Hid (siftDown ltU hi first c2 (swp d i0 i2) = D) := hid (by have := HO.out; rw [HIN.out] at this; simpa using this)
        go_wp2_with fail
        refine ParE.wp_region_e (l := [_, _, _, _, _, _, _, _, _, _, _, _, _, _, _, _, _, _, _, _, _, _, _, _]) rfl (Rg.Ch [21, 23] [] (SwV _ B g n cap i0 i2 z0 z2 d)) (ParC.VC [ParC.EQ (Value.slice (some ⟨g, 0, none⟩) n cap), ParC.EQ (Value.int IntKind.i64 (first : Int)), ParC.EQ (Value.int IntKind.i64 (root : Int)), ParC.EQ (Value.int IntKind.i64 (i0 : Int)), ParC.EQ (Value.slice (some ⟨g, 0, none⟩) n cap), ParC.EQ (Value.int IntKind.i64 (first : Int)), ParC.EQ (Value.int IntKind.i64 (c2 : Int)), ParC.EQ (Value.int IntKind.i64 (i2 : Int)), ParC.EQ (Value.slice (some ⟨g, 0, none⟩) n cap), ParC.EQ (Value.int IntKind.i64 (first : Int)), ParC.EQ (Value.int IntKind.i64 (c2 : Int)), ParC.EQ (Value.int IntKind.i64 (i2 : Int)), ParC.EQ (Value.pointer (some ⟨g, i2, none⟩)), ParC.EQ (uv z2), ParC.EQ (Value.slice (some ⟨g, 0, none⟩) n cap), ParC.EQ (Value.int IntKind.i64 (first : Int)), ParC.EQ (Value.int IntKind.i64 (root : Int)), ParC.EQ (Value.int IntKind.i64 (i0 : Int)), ParC.EQ (Value.pointer (some ⟨g, i0, none⟩)), ParC.EQ (uv z0), ParC.EQ (Value.pointer (some ⟨g, i0, none⟩)), fun _ => True, ParC.EQ (Value.pointer (some ⟨g, i2, none⟩)), fun _ => True]) (by kernel_rfl) (by kernel_rfl) (Rg.Ch.start ⟨fun _ => Ext.draw _, trivial⟩) ?_ ?_
        · refine ⟨fun L ρ w' hR hC hL hd hk => ?_, ?_⟩
          · exact Par.val_of_run rfl ⟨hR.other (by decide), hk.1⟩
          refine ⟨fun L ρ w' hR hC hL hd hk => ?_, ?_⟩
          · exact Par.val_of_run rfl ⟨hR.other (by decide), hk.1⟩
          refine ⟨fun L ρ w' hR hC hL hd hk => ?_, ?_⟩
          · exact Par.val_of_run rfl ⟨hR.other (by decide), hk.1⟩
          refine ⟨fun L ρ w' hR hC hL hd hk => ?_, ?_⟩
          · obtain ⟨(e0 : ρ (.tmp 54) = Value.int IntKind.i64 (first : Int)), (e1 : ρ (.tmp 55) = Value.int IntKind.i64 (root : Int)), -⟩ := hk; refine Par.val_k fun K hK => ?_; unfold Par.val
            (go_simp; exact hK _ _ ⟨hR.other (by decide), rfl⟩)
          refine ⟨fun L ρ w' hR hC hL hd hk => ?_, ?_⟩
          · exact Par.val_of_run rfl ⟨hR.other (by decide), hk.1⟩
          refine ⟨fun L ρ w' hR hC hL hd hk => ?_, ?_⟩
          · exact Par.val_of_run rfl ⟨hR.other (by decide), hk.1⟩
          refine ⟨fun L ρ w' hR hC hL hd hk => ?_, ?_⟩
          · exact Par.val_of_run rfl ⟨hR.other (by decide), hk.1⟩
          refine ⟨fun L ρ w' hR hC hL hd hk => ?_, ?_⟩
          · obtain ⟨(e0 : ρ (.tmp 58) = Value.int IntKind.i64 (first : Int)), (e1 : ρ (.tmp 59) = Value.int IntKind.i64 (c2 : Int)), -⟩ := hk; refine Par.val_k fun K hK => ?_; unfold Par.val
            (go_simp; exact hK _ _ ⟨hR.other (by decide), rfl⟩)
          refine ⟨fun L ρ w' hR hC hL hd hk => ?_, ?_⟩
          · exact Par.val_of_run rfl ⟨hR.other (by decide), hk.1⟩
          refine ⟨fun L ρ w' hR hC hL hd hk => ?_, ?_⟩
          · exact Par.val_of_run rfl ⟨hR.other (by decide), hk.1⟩
          refine ⟨fun L ρ w' hR hC hL hd hk => ?_, ?_⟩
          · exact Par.val_of_run rfl ⟨hR.other (by decide), hk.1⟩
          refine ⟨fun L ρ w' hR hC hL hd hk => ?_, ?_⟩
          · obtain ⟨(e0 : ρ (.tmp 62) = Value.int IntKind.i64 (first : Int)), (e1 : ρ (.tmp 63) = Value.int IntKind.i64 (c2 : Int)), -⟩ := hk; refine Par.val_k fun K hK => ?_; unfold Par.val
            (go_simp; exact hK _ _ ⟨hR.other (by decide), rfl⟩)
          refine ⟨fun L ρ w' hR hC hL hd hk => ?_, ?_⟩
          · obtain ⟨(e0 : ρ (.tmp 61) = Value.slice (some ⟨g, 0, none⟩) n cap), (e1 : ρ (.tmp 64) = Value.int IntKind.i64 (i2 : Int)), -⟩ := hk; refine Par.val_k fun K hK => ?_; unfold Par.val
            (go_simp; exact hK _ _ ⟨hR.other (by decide), rfl⟩)
          refine ⟨fun L ρ w' hR hC hL hd hk => ?_, ?_⟩
          · obtain ⟨(e0 : ρ (.tmp 65) = Value.pointer (some ⟨g, i2, none⟩)), -⟩ := hk; refine Par.val_k fun K hK => ?_; unfold Par.val
            (obtain ⟨ii, hii, hq⟩ := hR.some 0 rfl (hC.notyet 21 13 hL (by kernel_rfl)); have cc := HCz2.out _ (RA.ext (hq.1 (by omega)) HR.out); go_simp; exact hK _ _ ⟨hR.other (by decide), rfl⟩)
          refine ⟨fun L ρ w' hR hC hL hd hk => ?_, ?_⟩
          · exact Par.val_of_run rfl ⟨hR.other (by decide), hk.1⟩
          refine ⟨fun L ρ w' hR hC hL hd hk => ?_, ?_⟩
          · exact Par.val_of_run rfl ⟨hR.other (by decide), hk.1⟩
          refine ⟨fun L ρ w' hR hC hL hd hk => ?_, ?_⟩
          · exact Par.val_of_run rfl ⟨hR.other (by decide), hk.1⟩
          refine ⟨fun L ρ w' hR hC hL hd hk => ?_, ?_⟩
          · obtain ⟨(e0 : ρ (.tmp 68) = Value.int IntKind.i64 (first : Int)), (e1 : ρ (.tmp 69) = Value.int IntKind.i64 (root : Int)), -⟩ := hk; refine Par.val_k fun K hK => ?_; unfold Par.val
            (go_simp; exact hK _ _ ⟨hR.other (by decide), rfl⟩)
          refine ⟨fun L ρ w' hR hC hL hd hk => ?_, ?_⟩
          · obtain ⟨(e0 : ρ (.tmp 67) = Value.slice (some ⟨g, 0, none⟩) n cap), (e1 : ρ (.tmp 70) = Value.int IntKind.i64 (i0 : Int)), -⟩ := hk; refine Par.val_k fun K hK => ?_; unfold Par.val
            (go_simp; exact hK _ _ ⟨hR.other (by decide), rfl⟩)
          refine ⟨fun L ρ w' hR hC hL hd hk => ?_, ?_⟩
          · obtain ⟨(e0 : ρ (.tmp 71) = Value.pointer (some ⟨g, i0, none⟩)), -⟩ := hk; refine Par.val_k fun K hK => ?_; unfold Par.val
            (obtain ⟨ii, hii, hq⟩ := hR.some 0 rfl (hC.notyet 21 19 hL (by kernel_rfl)); have cc := HCz0.out _ (RA.ext (hq.1 (by omega)) HR.out); go_simp; exact hK _ _ ⟨hR.other (by decide), rfl⟩)
          refine ⟨fun L ρ w' hR hC hL hd hk => ?_, ?_⟩
          · obtain ⟨(e0 : ρ (.tmp 53) = Value.slice (some ⟨g, 0, none⟩) n cap), (e1 : ρ (.tmp 56) = Value.int IntKind.i64 (i0 : Int)), -⟩ := hk; refine Par.val_k fun K hK => ?_; unfold Par.val
            (go_simp; exact hK _ _ ⟨hR.other (by decide), rfl⟩)
          refine ⟨fun L ρ w' hR hC hL hd hk => ?_, ?_⟩
          · obtain ⟨(e0 : ρ (.tmp 73) = Value.pointer (some ⟨g, i0, none⟩)), (e1 : ρ (.tmp 66) = uv z2), -⟩ := hk; refine Par.val_k fun K hK => ?_; unfold Par.val
            (obtain ⟨hq, hs⟩ := hR.go 0 rfl hL (.inl rfl) (by decide); have hx := hq.1 (by decide); have hrow := RA.ext hx HR.out; obtain ⟨cc, ff⟩ := hrow.at (j := i0) (by omega); obtain ⟨hset, hfs⟩ := hrow.set i0 z2; have HSET := hid hset; have HFS := hid hfs; clear hset hfs hrow; go_simp; exact hK _ _ ⟨hs none _ _ ⟨fun h => absurd h (by decide), HSET.out, (Ext.fr hx).trans HFS.out⟩, trivial⟩)
          refine ⟨fun L ρ w' hR hC hL hd hk => ?_, ?_⟩
          · obtain ⟨(e0 : ρ (.tmp 57) = Value.slice (some ⟨g, 0, none⟩) n cap), (e1 : ρ (.tmp 60) = Value.int IntKind.i64 (i2 : Int)), -⟩ := hk; refine Par.val_k fun K hK => ?_; unfold Par.val
            (go_simp; exact hK _ _ ⟨hR.other (by decide), rfl⟩)
          refine ⟨fun L ρ w' hR hC hL hd hk => ?_, ?_⟩
          · obtain ⟨(e0 : ρ (.tmp 74) = Value.pointer (some ⟨g, i2, none⟩)), (e1 : ρ (.tmp 72) = uv z0), -⟩ := hk; refine Par.val_k fun K hK => ?_; unfold Par.val
            (obtain ⟨hq, hs⟩ := hR.go 1 rfl hL (.inr ⟨21, rfl, hC.before 21 (i := 23) rfl hd (by kernel_rfl)⟩) (by decide); obtain ⟨hrow, hfr⟩ := hq.2; obtain ⟨cc, ff⟩ := hrow.at (j := i2) (by omega); obtain ⟨hset, hfs⟩ := hrow.set i2 z0; have HSET := hid hset; have HFS := hid hfs; have HFR := hid hfr; clear hset hfs hrow hfr; go_simp; exact hK _ _ ⟨hs none _ _ ⟨fun h => absurd h (by decide), HSET.out, HFR.out.trans HFS.out⟩, trivial⟩)
          trivial
        intro a' w' inv hR
        have q53 : a'.tmps.getD 53 undef = Value.slice (some ⟨g, 0, none⟩) n cap := inv.done 0 _ 53 rfl rfl rfl
        have q54 : a'.tmps.getD 54 undef = Value.int IntKind.i64 (first : Int) := inv.done 1 _ 54 rfl rfl rfl
        have q55 : a'.tmps.getD 55 undef = Value.int IntKind.i64 (root : Int) := inv.done 2 _ 55 rfl rfl rfl
        have q56 : a'.tmps.getD 56 undef = Value.int IntKind.i64 (i0 : Int) := inv.done 3 _ 56 rfl rfl rfl
        have q57 : a'.tmps.getD 57 undef = Value.slice (some ⟨g, 0, none⟩) n cap := inv.done 4 _ 57 rfl rfl rfl
        have q58 : a'.tmps.getD 58 undef = Value.int IntKind.i64 (first : Int) := inv.done 5 _ 58 rfl rfl rfl
        have q59 : a'.tmps.getD 59 undef = Value.int IntKind.i64 (c2 : Int) := inv.done 6 _ 59 rfl rfl rfl
        have q60 : a'.tmps.getD 60 undef = Value.int IntKind.i64 (i2 : Int) := inv.done 7 _ 60 rfl rfl rfl
        have q61 : a'.tmps.getD 61 undef = Value.slice (some ⟨g, 0, none⟩) n cap := inv.done 8 _ 61 rfl rfl rfl
        have q62 : a'.tmps.getD 62 undef = Value.int IntKind.i64 (first : Int) := inv.done 9 _ 62 rfl rfl rfl
        have q63 : a'.tmps.getD 63 undef = Value.int IntKind.i64 (c2 : Int) := inv.done 10 _ 63 rfl rfl rfl
        have q64 : a'.tmps.getD 64 undef = Value.int IntKind.i64 (i2 : Int) := inv.done 11 _ 64 rfl rfl rfl
        have q65 : a'.tmps.getD 65 undef = Value.pointer (some ⟨g, i2, none⟩) := inv.done 12 _ 65 rfl rfl rfl
        have q66 : a'.tmps.getD 66 undef = uv z2 := inv.done 13 _ 66 rfl rfl rfl
        have q67 : a'.tmps.getD 67 undef = Value.slice (some ⟨g, 0, none⟩) n cap := inv.done 14 _ 67 rfl rfl rfl
        have q68 : a'.tmps.getD 68 undef = Value.int IntKind.i64 (first : Int) := inv.done 15 _ 68 rfl rfl rfl
        have q69 : a'.tmps.getD 69 undef = Value.int IntKind.i64 (root : Int) := inv.done 16 _ 69 rfl rfl rfl
        have q70 : a'.tmps.getD 70 undef = Value.int IntKind.i64 (i0 : Int) := inv.done 17 _ 70 rfl rfl rfl
        have q71 : a'.tmps.getD 71 undef = Value.pointer (some ⟨g, i0, none⟩) := inv.done 18 _ 71 rfl rfl rfl
        have q72 : a'.tmps.getD 72 undef = uv z0 := inv.done 19 _ 72 rfl rfl rfl
        have q73 : a'.tmps.getD 73 undef = Value.pointer (some ⟨g, i0, none⟩) := inv.done 20 _ 73 rfl rfl rfl
        have q74 : a'.tmps.getD 74 undef = Value.pointer (some ⟨g, i2, none⟩) := inv.done 22 _ 74 rfl rfl rfl
        clear inv
        simp only [List.filterMap_cons, List.filterMap_nil, Par.putAll, Act.put, List.setIfInBounds_toArray, List.set_cons_succ, List.set_cons_zero, q53, q54, q55, q56, q57, q58, q59, q60, q61, q62, q63, q64, q65, q66, q67, q68, q69, q70, q71, q72, q73, q74]
        clear q53 q54 q55 q56 q57 q58 q59 q60 q61 q62 q63 q64 q65 q66 q67 q68 q69 q70 q71 q72 q73 q74
        obtain ⟨-, hrd, hf⟩ := Rg.Ch.fin hR (by decide) 2 rfl; have HRD := hid hrd; have HF4 := hid hf; clear hrd hf hR
        try clear a'
        have HR3 := hid (RA.swp Hz0 Hz2 HRD.out)
        have HF3 := hid (HF.out.trans HF4.out)
        clear HRD HF4 HR HF
        have HR := HR3
        have HF := HF3
        clear HR3 HF3
        go_wp2
        go_roundw
        case rel => exact ⟨c2, swp d i0 i2, by omega, by first | rfl | go_num, HR, HO3, HF⟩
        case measure => simp [intOf]; have := HE.out; omega
      case false =>
       obtain ⟨b1, Hb1⟩ : ∃ b, Hid (ltU z0 z1 = b) := ⟨_, hid rfl⟩
       have HIN : Hid (siftDown ltU hi first root d = if b1 then siftDown ltU hi first c (swp d i0 i1) else d) := hid (by rw [sift_left d HE.out.1 HE.out.2.2.1 HE.out.2.2.2.1 hci (fun _ => by rw [← HE.out.2.2.2.2.1, Hz1.out, Hz2.out]; exact Hb0.out), Hz0.out, Hz1.out, Hb1.out])
       go_wp2_with fail
       refine Par.wp_region_par (l := [_, _, _, _, _, _, _, _, _, _, _, _, _, _]) rfl Ext (Par.VL [Par.EQ (Value.slice (some ⟨g, 0, none⟩) n cap), Par.EQ (Value.int IntKind.i64 (first : Int)), Par.EQ (Value.int IntKind.i64 (root : Int)), Par.EQ (Value.int IntKind.i64 (i0 : Int)), Par.EQ (Value.pointer (some ⟨g, i0, none⟩)), Par.EQ (uv z0), Par.EQ (Value.slice (some ⟨g, 0, none⟩) n cap), Par.EQ (Value.int IntKind.i64 (first : Int)), Par.EQ (Value.int IntKind.i64 (c : Int)), Par.EQ (Value.int IntKind.i64 (i1 : Int)), Par.EQ (Value.pointer (some ⟨g, i1, none⟩)), Par.EQ (uv z1), Par.EQ (Value.bool b1), Par.EQ (Value.bool (!b1))]) (by kernel_rfl) Ext.refl (fun _ _ _ h1 h2 => Ext.trans h1 h2) (Ext.draw _) (Par.VL_stab ?_) ?_ ?_
       · simp only [List.forall_mem_cons, List.not_mem_nil, false_implies, implies_true, and_true]
         refine ⟨fun _ _ _ _ h => h, fun _ _ _ _ h => h, fun _ _ _ _ h => h, fun _ _ _ _ h => h, fun _ _ _ _ h => h, fun _ _ _ _ h => h, fun _ _ _ _ h => h, fun _ _ _ _ h => h, fun _ _ _ _ h => h, fun _ _ _ _ h => h, fun _ _ _ _ h => h, fun _ _ _ _ h => h, fun _ _ _ _ h => h, fun _ _ _ _ h => h⟩
       · refine ⟨⟨fun _ _ => trivial, fun ρ w' hX hG hk => ?_⟩, ?_⟩
         · exact Par.val_of_run rfl ⟨Ext.refl _, hk.1⟩
         refine ⟨⟨fun _ _ => trivial, fun ρ w' hX hG hk => ?_⟩, ?_⟩
         · exact Par.val_of_run rfl ⟨Ext.refl _, hk.1⟩
         refine ⟨⟨fun _ _ => trivial, fun ρ w' hX hG hk => ?_⟩, ?_⟩
         · exact Par.val_of_run rfl ⟨Ext.refl _, hk.1⟩
         refine ⟨⟨fun _ _ => trivial, fun ρ w' hX hG hk => ?_⟩, ?_⟩
         · obtain ⟨(e0 : ρ (.tmp 40) = Value.int IntKind.i64 (first : Int)), (e1 : ρ (.tmp 41) = Value.int IntKind.i64 (root : Int)), -⟩ := hk; refine Par.val_k fun K hK => ?_; unfold Par.val
           (go_simp; exact hK _ _ ⟨Ext.refl _, rfl⟩)
         refine ⟨⟨fun _ _ => trivial, fun ρ w' hX hG hk => ?_⟩, ?_⟩
         · obtain ⟨(e0 : ρ (.tmp 39) = Value.slice (some ⟨g, 0, none⟩) n cap), (e1 : ρ (.tmp 42) = Value.int IntKind.i64 (i0 : Int)), -⟩ := hk; refine Par.val_k fun K hK => ?_; unfold Par.val
           (go_simp; exact hK _ _ ⟨Ext.refl _, rfl⟩)
         refine ⟨⟨fun _ _ => trivial, fun ρ w' hX hG hk => ?_⟩, ?_⟩
         · obtain ⟨(e0 : ρ (.tmp 43) = Value.pointer (some ⟨g, i0, none⟩)), -⟩ := hk; refine Par.val_k fun K hK => ?_; unfold Par.val
           (have cc := HCz0.out _ (RA.ext hX HR.out); go_simp; exact hK _ _ ⟨Ext.refl _, rfl⟩)
         refine ⟨⟨fun _ _ => trivial, fun ρ w' hX hG hk => ?_⟩, ?_⟩
         · exact Par.val_of_run rfl ⟨Ext.refl _, hk.1⟩
         refine ⟨⟨fun _ _ => trivial, fun ρ w' hX hG hk => ?_⟩, ?_⟩
         · exact Par.val_of_run rfl ⟨Ext.refl _, hk.1⟩
         refine ⟨⟨fun _ _ => trivial, fun ρ w' hX hG hk => ?_⟩, ?_⟩
         · exact Par.val_of_run rfl ⟨Ext.refl _, hk.1⟩
         refine ⟨⟨fun _ _ => trivial, fun ρ w' hX hG hk => ?_⟩, ?_⟩
         · obtain ⟨(e0 : ρ (.tmp 46) = Value.int IntKind.i64 (first : Int)), (e1 : ρ (.tmp 47) = Value.int IntKind.i64 (c : Int)), -⟩ := hk; refine Par.val_k fun K hK => ?_; unfold Par.val
           (go_simp; exact hK _ _ ⟨Ext.refl _, rfl⟩)
         refine ⟨⟨fun _ _ => trivial, fun ρ w' hX hG hk => ?_⟩, ?_⟩
         · obtain ⟨(e0 : ρ (.tmp 45) = Value.slice (some ⟨g, 0, none⟩) n cap), (e1 : ρ (.tmp 48) = Value.int IntKind.i64 (i1 : Int)), -⟩ := hk; refine Par.val_k fun K hK => ?_; unfold Par.val
           (go_simp; exact hK _ _ ⟨Ext.refl _, rfl⟩)
         refine ⟨⟨fun _ _ => trivial, fun ρ w' hX hG hk => ?_⟩, ?_⟩
         · obtain ⟨(e0 : ρ (.tmp 49) = Value.pointer (some ⟨g, i1, none⟩)), -⟩ := hk; refine Par.val_k fun K hK => ?_; unfold Par.val
           (have cc := HCz1.out _ (RA.ext hX HR.out); go_simp; exact hK _ _ ⟨Ext.refl _, rfl⟩)
         refine ⟨⟨fun _ _ => trivial, fun ρ w' hX hG hk => ?_⟩, ?_⟩
         · obtain ⟨e0, (e1 : ρ (.tmp 44) = uv z0), (e2 : ρ (.tmp 50) = uv z1), -⟩ := hk; refine Par.val_k fun K hK => ?_; unfold Par.val
           refine Par.val_call Tryz.func121 (by kernel_rfl) rfl e0 ?_
           simp only [List.map_toArray, List.map_cons, List.map_nil, e1, e2]
           refine (lessU_any z0 z1 _).mono ?_
           rintro e w2 ⟨rfl, rfl⟩
           exact ⟨_, rfl, hK _ _ ⟨Ext.refl _, (congrArg Value.bool Hb1.out)⟩⟩
         refine ⟨⟨fun _ _ => trivial, fun ρ w' hX hG hk => ?_⟩, ?_⟩
         · obtain ⟨(e0 : ρ (.tmp 51) = Value.bool b1), -⟩ := hk; refine Par.val_k fun K hK => ?_; unfold Par.val
           (go_simp; exact hK _ _ ⟨Ext.refl _, rfl⟩)
         trivial
       intro a' w' inv
       have hX := inv.ext
       have q39 : a'.tmps.getD 39 undef = Value.slice (some ⟨g, 0, none⟩) n cap := inv.done 0 _ 39 rfl rfl rfl
       have q40 : a'.tmps.getD 40 undef = Value.int IntKind.i64 (first : Int) := inv.done 1 _ 40 rfl rfl rfl
       have q41 : a'.tmps.getD 41 undef = Value.int IntKind.i64 (root : Int) := inv.done 2 _ 41 rfl rfl rfl
       have q42 : a'.tmps.getD 42 undef = Value.int IntKind.i64 (i0 : Int) := inv.done 3 _ 42 rfl rfl rfl
       have q43 : a'.tmps.getD 43 undef = Value.pointer (some ⟨g, i0, none⟩) := inv.done 4 _ 43 rfl rfl rfl
       have q44 : a'.tmps.getD 44 undef = uv z0 := inv.done 5 _ 44 rfl rfl rfl
       have q45 : a'.tmps.getD 45 undef = Value.slice (some ⟨g, 0, none⟩) n cap := inv.done 6 _ 45 rfl rfl rfl
       have q46 : a'.tmps.getD 46 undef = Value.int IntKind.i64 (first : Int) := inv.done 7 _ 46 rfl rfl rfl
       have q47 : a'.tmps.getD 47 undef = Value.int IntKind.i64 (c : Int) := inv.done 8 _ 47 rfl rfl rfl
       have q48 : a'.tmps.getD 48 undef = Value.int IntKind.i64 (i1 : Int) := inv.done 9 _ 48 rfl rfl rfl
       have q49 : a'.tmps.getD 49 undef = Value.pointer (some ⟨g, i1, none⟩) := inv.done 10 _ 49 rfl rfl rfl
       have q50 : a'.tmps.getD 50 undef = uv z1 := inv.done 11 _ 50 rfl rfl rfl
       have q51 : a'.tmps.getD 51 undef = Value.bool b1 := inv.done 12 _ 51 rfl rfl rfl
       have q52 : a'.tmps.getD 52 undef = Value.bool (!b1) := inv.done 13 _ 52 rfl rfl rfl
       clear inv
       simp only [List.filterMap_cons, List.filterMap_nil, Par.putAll, Act.put, List.setIfInBounds_toArray, List.set_cons_succ, List.set_cons_zero, q39, q40, q41, q42, q43, q44, q45, q46, q47, q48, q49, q50, q51, q52]
       clear q39 q40 q41 q42 q43 q44 q45 q46 q47 q48 q49 q50 q51 q52
       clear a'
       have HF2 := hid (HF.out.trans (Ext.fr hX))
       have HR2 := hid (RA.ext hX HR.out)
       clear hX HF HR
       have HF := HF2
       have HR := HR2
       clear HF2 HR2
       cases b1
       case false =>
        have HO3 : Hid (d = D) := hid (by have := HO.out; rw [HIN.out] at this; simpa using this)
        go_wp2
        go_returns
        exact ⟨⟨_, rfl⟩, by have := HR.out; rw [HO3.out] at this; exact this, HF.out⟩
       case true =>
        have HO3 : Hid (siftDown ltU hi first c (swp d i0 i1) = D) := hid (by have := HO.out; rw [HIN.out] at this; simpa using this)
        go_wp2_with fail
        refine ParE.wp_region_e (l := [_, _, _, _, _, _, _, _, _, _, _, _, _, _, _, _, _, _, _, _, _, _, _, _]) rfl (Rg.Ch [21, 23] [] (SwV _ B g n cap i0 i1 z0 z1 d)) (ParC.VC [ParC.EQ (Value.slice (some ⟨g, 0, none⟩) n cap), ParC.EQ (Value.int IntKind.i64 (first : Int)), ParC.EQ (Value.int IntKind.i64 (root : Int)), ParC.EQ (Value.int IntKind.i64 (i0 : Int)), ParC.EQ (Value.slice (some ⟨g, 0, none⟩) n cap), ParC.EQ (Value.int IntKind.i64 (first : Int)), ParC.EQ (Value.int IntKind.i64 (c : Int)), ParC.EQ (Value.int IntKind.i64 (i1 : Int)), ParC.EQ (Value.slice (some ⟨g, 0, none⟩) n cap), ParC.EQ (Value.int IntKind.i64 (first : Int)), ParC.EQ (Value.int IntKind.i64 (c : Int)), ParC.EQ (Value.int IntKind.i64 (i1 : Int)), ParC.EQ (Value.pointer (some ⟨g, i1, none⟩)), ParC.EQ (uv z1), ParC.EQ (Value.slice (some ⟨g, 0, none⟩) n cap), ParC.EQ (Value.int IntKind.i64 (first : Int)), ParC.EQ (Value.int IntKind.i64 (root : Int)), ParC.EQ (Value.int IntKind.i64 (i0 : Int)), ParC.EQ (Value.pointer (some ⟨g, i0, none⟩)), ParC.EQ (uv z0), ParC.EQ (Value.pointer (some ⟨g, i0, none⟩)), fun _ => True, ParC.EQ (Value.pointer (some ⟨g, i1, none⟩)), fun _ => True]) (by kernel_rfl) (by kernel_rfl) (Rg.Ch.start ⟨fun _ => Ext.draw _, trivial⟩) ?_ ?_
        · refine ⟨fun L ρ w' hR hC hL hd hk => ?_, ?_⟩
          · exact Par.val_of_run rfl ⟨hR.other (by decide), hk.1⟩
          refine ⟨fun L ρ w' hR hC hL hd hk => ?_, ?_⟩
          · exact Par.val_of_run rfl ⟨hR.other (by decide), hk.1⟩
          refine ⟨fun L ρ w' hR hC hL hd hk => ?_, ?_⟩
          · exact Par.val_of_run rfl ⟨hR.other (by decide), hk.1⟩
          refine ⟨fun L ρ w' hR hC hL hd hk => ?_, ?_⟩
          · obtain ⟨(e0 : ρ (.tmp 54) = Value.int IntKind.i64 (first : Int)), (e1 : ρ (.tmp 55) = Value.int IntKind.i64 (root : Int)), -⟩ := hk; refine Par.val_k fun K hK => ?_; unfold Par.val
            (go_simp; exact hK _ _ ⟨hR.other (by decide), rfl⟩)
          refine ⟨fun L ρ w' hR hC hL hd hk => ?_, ?_⟩
          · exact Par.val_of_run rfl ⟨hR.other (by decide), hk.1⟩
          refine ⟨fun L ρ w' hR hC hL hd hk => ?_, ?_⟩
          · exact Par.val_of_run rfl ⟨hR.other (by decide), hk.1⟩
          refine ⟨fun L ρ w' hR hC hL hd hk => ?_, ?_⟩
          · exact Par.val_of_run rfl ⟨hR.other (by decide), hk.1⟩
          refine ⟨fun L ρ w' hR hC hL hd hk => ?_, ?_⟩
          · obtain ⟨(e0 : ρ (.tmp 58) = Value.int IntKind.i64 (first : Int)), (e1 : ρ (.tmp 59) = Value.int IntKind.i64 (c : Int)), -⟩ := hk; refine Par.val_k fun K hK => ?_; unfold Par.val
            (go_simp; exact hK _ _ ⟨hR.other (by decide), rfl⟩)
          refine ⟨fun L ρ w' hR hC hL hd hk => ?_, ?_⟩
          · exact Par.val_of_run rfl ⟨hR.other (by decide), hk.1⟩
          refine ⟨fun L ρ w' hR hC hL hd hk => ?_, ?_⟩
          · exact Par.val_of_run rfl ⟨hR.other (by decide), hk.1⟩
          refine ⟨fun L ρ w' hR hC hL hd hk => ?_, ?_⟩
          · exact Par.val_of_run rfl ⟨hR.other (by decide), hk.1⟩
          refine ⟨fun L ρ w' hR hC hL hd hk => ?_, ?_⟩
          · obtain ⟨(e0 : ρ (.tmp 62) = Value.int IntKind.i64 (first : Int)), (e1 : ρ (.tmp 63) = Value.int IntKind.i64 (c : Int)), -⟩ := hk; refine Par.val_k fun K hK => ?_; unfold Par.val
            (go_simp; exact hK _ _ ⟨hR.other (by decide), rfl⟩)
          refine ⟨fun L ρ w' hR hC hL hd hk => ?_, ?_⟩
          · obtain ⟨(e0 : ρ (.tmp 61) = Value.slice (some ⟨g, 0, none⟩) n cap), (e1 : ρ (.tmp 64) = Value.int IntKind.i64 (i1 : Int)), -⟩ := hk; refine Par.val_k fun K hK => ?_; unfold Par.val
            (go_simp; exact hK _ _ ⟨hR.other (by decide), rfl⟩)
          refine ⟨fun L ρ w' hR hC hL hd hk => ?_, ?_⟩
          · obtain ⟨(e0 : ρ (.tmp 65) = Value.pointer (some ⟨g, i1, none⟩)), -⟩ := hk; refine Par.val_k fun K hK => ?_; unfold Par.val
            (obtain ⟨ii, hii, hq⟩ := hR.some 0 rfl (hC.notyet 21 13 hL (by kernel_rfl)); have cc := HCz1.out _ (RA.ext (hq.1 (by omega)) HR.out); go_simp; exact hK _ _ ⟨hR.other (by decide), rfl⟩)
          refine ⟨fun L ρ w' hR hC hL hd hk => ?_, ?_⟩
          · exact Par.val_of_run rfl ⟨hR.other (by decide), hk.1⟩
          refine ⟨fun L ρ w' hR hC hL hd hk => ?_, ?_⟩
          · exact Par.val_of_run rfl ⟨hR.other (by decide), hk.1⟩
          refine ⟨fun L ρ w' hR hC hL hd hk => ?_, ?_⟩
          · exact Par.val_of_run rfl ⟨hR.other (by decide), hk.1⟩
          refine ⟨fun L ρ w' hR hC hL hd hk => ?_, ?_⟩
          · obtain ⟨(e0 : ρ (.tmp 68) = Value.int IntKind.i64 (first : Int)), (e1 : ρ (.tmp 69) = Value.int IntKind.i64 (root : Int)), -⟩ := hk; refine Par.val_k fun K hK => ?_; unfold Par.val
            (go_simp; exact hK _ _ ⟨hR.other (by decide), rfl⟩)
          refine ⟨fun L ρ w' hR hC hL hd hk => ?_, ?_⟩
          · obtain ⟨(e0 : ρ (.tmp 67) = Value.slice (some ⟨g, 0, none⟩) n cap), (e1 : ρ (.tmp 70) = Value.int IntKind.i64 (i0 : Int)), -⟩ := hk; refine Par.val_k fun K hK => ?_; unfold Par.val
            (go_simp; exact hK _ _ ⟨hR.other (by decide), rfl⟩)
          refine ⟨fun L ρ w' hR hC hL hd hk => ?_, ?_⟩
          · obtain ⟨(e0 : ρ (.tmp 71) = Value.pointer (some ⟨g, i0, none⟩)), -⟩ := hk; refine Par.val_k fun K hK => ?_; unfold Par.val
            (obtain ⟨ii, hii, hq⟩ := hR.some 0 rfl (hC.notyet 21 19 hL (by kernel_rfl)); have cc := HCz0.out _ (RA.ext (hq.1 (by omega)) HR.out); go_simp; exact hK _ _ ⟨hR.other (by decide), rfl⟩)
          refine ⟨fun L ρ w' hR hC hL hd hk => ?_, ?_⟩
          · obtain ⟨(e0 : ρ (.tmp 53) = Value.slice (some ⟨g, 0, none⟩) n cap), (e1 : ρ (.tmp 56) = Value.int IntKind.i64 (i0 : Int)), -⟩ := hk; refine Par.val_k fun K hK => ?_; unfold Par.val
            (go_simp; exact hK _ _ ⟨hR.other (by decide), rfl⟩)
          refine ⟨fun L ρ w' hR hC hL hd hk => ?_, ?_⟩
          · obtain ⟨(e0 : ρ (.tmp 73) = Value.pointer (some ⟨g, i0, none⟩)), (e1 : ρ (.tmp 66) = uv z1), -⟩ := hk; refine Par.val_k fun K hK => ?_; unfold Par.val
            (obtain ⟨hq, hs⟩ := hR.go 0 rfl hL (.inl rfl) (by decide); have hx := hq.1 (by decide); have hrow := RA.ext hx HR.out; obtain ⟨cc, ff⟩ := hrow.at (j := i0) (by omega); obtain ⟨hset, hfs⟩ := hrow.set i0 z1; have HSET := hid hset; have HFS := hid hfs; clear hset hfs hrow; go_simp; exact hK _ _ ⟨hs none _ _ ⟨fun h => absurd h (by decide), HSET.out, (Ext.fr hx).trans HFS.out⟩, trivial⟩)
          refine ⟨fun L ρ w' hR hC hL hd hk => ?_, ?_⟩
          · obtain ⟨(e0 : ρ (.tmp 57) = Value.slice (some ⟨g, 0, none⟩) n cap), (e1 : ρ (.tmp 60) = Value.int IntKind.i64 (i1 : Int)), -⟩ := hk; refine Par.val_k fun K hK => ?_; unfold Par.val
            (go_simp; exact hK _ _ ⟨hR.other (by decide), rfl⟩)
          refine ⟨fun L ρ w' hR hC hL hd hk => ?_, ?_⟩
          · obtain ⟨(e0 : ρ (.tmp 74) = Value.pointer (some ⟨g, i1, none⟩)), (e1 : ρ (.tmp 72) = uv z0), -⟩ := hk; refine Par.val_k fun K hK => ?_; unfold Par.val
            (obtain ⟨hq, hs⟩ := hR.go 1 rfl hL (.inr ⟨21, rfl, hC.before 21 (i := 23) rfl hd (by kernel_rfl)⟩) (by decide); obtain ⟨hrow, hfr⟩ := hq.2; obtain ⟨cc, ff⟩ := hrow.at (j := i1) (by omega); obtain ⟨hset, hfs⟩ := hrow.set i1 z0; have HSET := hid hset; have HFS := hid hfs; have HFR := hid hfr; clear hset hfs hrow hfr; go_simp; exact hK _ _ ⟨hs none _ _ ⟨fun h => absurd h (by decide), HSET.out, HFR.out.trans HFS.out⟩, trivial⟩)
          trivial
        intro a' w' inv hR
        have q53 : a'.tmps.getD 53 undef = Value.slice (some ⟨g, 0, none⟩) n cap := inv.done 0 _ 53 rfl rfl rfl
        have q54 : a'.tmps.getD 54 undef = Value.int IntKind.i64 (first : Int) := inv.done 1 _ 54 rfl rfl rfl
        have q55 : a'.tmps.getD 55 undef = Value.int IntKind.i64 (root : Int) := inv.done 2 _ 55 rfl rfl rfl
        have q56 : a'.tmps.getD 56 undef = Value.int IntKind.i64 (i0 : Int) := inv.done 3 _ 56 rfl rfl rfl
        have q57 : a'.tmps.getD 57 undef = Value.slice (some ⟨g, 0, none⟩) n cap := inv.done 4 _ 57 rfl rfl rfl
        have q58 : a'.tmps.getD 58 undef = Value.int IntKind.i64 (first : Int) := inv.done 5 _ 58 rfl rfl rfl
        have q59 : a'.tmps.getD 59 undef = Value.int IntKind.i64 (c : Int) := inv.done 6 _ 59 rfl rfl rfl
        have q60 : a'.tmps.getD 60 undef = Value.int IntKind.i64 (i1 : Int) := inv.done 7 _ 60 rfl rfl rfl
        have q61 : a'.tmps.getD 61 undef = Value.slice (some ⟨g, 0, none⟩) n cap := inv.done 8 _ 61 rfl rfl rfl
        have q62 : a'.tmps.getD 62 undef = Value.int IntKind.i64 (first : Int) := inv.done 9 _ 62 rfl rfl rfl
        have q63 : a'.tmps.getD 63 undef = Value.int IntKind.i64 (c : Int) := inv.done 10 _ 63 rfl rfl rfl
        have q64 : a'.tmps.getD 64 undef = Value.int IntKind.i64 (i1 : Int) := inv.done 11 _ 64 rfl rfl rfl
        have q65 : a'.tmps.getD 65 undef = Value.pointer (some ⟨g, i1, none⟩) := inv.done 12 _ 65 rfl rfl rfl
        have q66 : a'.tmps.getD 66 undef = uv z1 := inv.done 13 _ 66 rfl rfl rfl
        have q67 : a'.tmps.getD 67 undef = Value.slice (some ⟨g, 0, none⟩) n cap := inv.done 14 _ 67 rfl rfl rfl
        have q68 : a'.tmps.getD 68 undef = Value.int IntKind.i64 (first : Int) := inv.done 15 _ 68 rfl rfl rfl
        have q69 : a'.tmps.getD 69 undef = Value.int IntKind.i64 (root : Int) := inv.done 16 _ 69 rfl rfl rfl
        have q70 : a'.tmps.getD 70 undef = Value.int IntKind.i64 (i0 : Int) := inv.done 17 _ 70 rfl rfl rfl
        have q71 : a'.tmps.getD 71 undef = Value.pointer (some ⟨g, i0, none⟩) := inv.done 18 _ 71 rfl rfl rfl
        have q72 : a'.tmps.getD 72 undef = uv z0 := inv.done 19 _ 72 rfl rfl rfl
        have q73 : a'.tmps.getD 73 undef = Value.pointer (some ⟨g, i0, none⟩) := inv.done 20 _ 73 rfl rfl rfl
        have q74 : a'.tmps.getD 74 undef = Value.pointer (some ⟨g, i1, none⟩) := inv.done 22 _ 74 rfl rfl rfl
        clear inv
        simp only [List.filterMap_cons, List.filterMap_nil, Par.putAll, Act.put, List.setIfInBounds_toArray, List.set_cons_succ, List.set_cons_zero, q53, q54, q55, q56, q57, q58, q59, q60, q61, q62, q63, q64, q65, q66, q67, q68, q69, q70, q71, q72, q73, q74]
        clear q53 q54 q55 q56 q57 q58 q59 q60 q61 q62 q63 q64 q65 q66 q67 q68 q69 q70 q71 q72 q73 q74
        obtain ⟨-, hrd, hf⟩ := Rg.Ch.fin hR (by decide) 2 rfl; have HRD := hid hrd; have HF4 := hid hf; clear hrd hf hR
        try clear a'
        have HR3 := hid (RA.swp Hz0 Hz1 HRD.out)
        have HF3 := hid (HF.out.trans HF4.out)
        clear HRD HF4 HR HF
        have HR := HR3
        have HF := HF3
        clear HR3 HF3
        go_wp2
        go_roundw
        case rel => exact ⟨c, swp d i0 i1, by omega, by first | rfl | go_num, HR, HO3, HF⟩
        case measure => simp [intOf]; have := HE.out; omega
    · have hlt2 : (c2 < hi) = False := by simp; omega
      clear hc hc2 hi0 hi1 hi2 hm
      go_wp2_with fail
      refine Par.wp_region_par (l := [_, _, _, _, _, _, _, _, _, _, _, _, _, _, _, _, _, _, _, _]) rfl Ext (Par.VL [Par.EQ (Value.int IntKind.i64 (c : Int)), Par.EQ (Value.int IntKind.i64 (c2 : Int)), Par.EQ (Value.int IntKind.i64 (hi : Int)), Par.EQ (Value.bool false), Par.EQ (Value.bool false), Par.EQ (undef), Par.EQ (undef), Par.EQ (undef), Par.EQ (undef), Par.EQ (undef), Par.EQ (undef), Par.EQ (undef), Par.EQ (undef), Par.EQ (undef), Par.EQ (undef), Par.EQ (undef), Par.EQ (undef), Par.EQ (undef), Par.EQ (undef), Par.EQ (Value.bool false)]) (by kernel_rfl) Ext.refl (fun _ _ _ h1 h2 => Ext.trans h1 h2) (Ext.draw _) (Par.VL_stab ?_) ?_ ?_
      · simp only [List.forall_mem_cons, List.not_mem_nil, false_implies, implies_true, and_true]
        refine ⟨fun _ _ _ _ h => h, fun _ _ _ _ h => h, fun _ _ _ _ h => h, fun _ _ _ _ h => h, fun _ _ _ _ h => h, fun _ _ _ _ h => h, fun _ _ _ _ h => h, fun _ _ _ _ h => h, fun _ _ _ _ h => h, fun _ _ _ _ h => h, fun _ _ _ _ h => h, fun _ _ _ _ h => h, fun _ _ _ _ h => h, fun _ _ _ _ h => h, fun _ _ _ _ h => h, fun _ _ _ _ h => h, fun _ _ _ _ h => h, fun _ _ _ _ h => h, fun _ _ _ _ h => h, fun _ _ _ _ h => h⟩
      · refine ⟨⟨fun _ _ => trivial, fun ρ w' hX hG hk => ?_⟩, ?_⟩
        · exact Par.val_of_run rfl ⟨Ext.refl _, hk.1⟩
        refine ⟨⟨fun _ _ => trivial, fun ρ w' hX hG hk => ?_⟩, ?_⟩
        · obtain ⟨(e0 : ρ (.tmp 17) = Value.int IntKind.i64 (c : Int)), (e1 : ρ (Operand.const (Value.int IntKind.i64 1)) = (Value.int IntKind.i64 1)), -⟩ := hk; refine Par.val_k fun K hK => ?_; unfold Par.val
          (go_simp; exact hK _ _ ⟨Ext.refl _, rfl⟩)
        refine ⟨⟨fun _ _ => trivial, fun ρ w' hX hG hk => ?_⟩, ?_⟩
        · exact Par.val_of_run rfl ⟨Ext.refl _, hk.1⟩
        refine ⟨⟨fun _ _ => trivial, fun ρ w' hX hG hk => ?_⟩, ?_⟩
        · obtain ⟨(e0 : ρ (.tmp 18) = Value.int IntKind.i64 (c2 : Int)), (e1 : ρ (.tmp 19) = Value.int IntKind.i64 (hi : Int)), -⟩ := hk; refine Par.val_k fun K hK => ?_; unfold Par.val
          (go_simp; exact hK _ _ ⟨Ext.refl _, rfl⟩)
        refine ⟨⟨fun _ _ => trivial, fun ρ w' hX hG hk => ?_⟩, ?_⟩
        · exact Par.val_of_run rfl ⟨Ext.refl _, hk.1⟩
        refine ⟨⟨fun _ _ u hu => .inr rfl, fun ρ w' hX hG hk => ?_⟩, ?_⟩
        · cases hG
        refine ⟨⟨fun _ _ u hu => .inr rfl, fun ρ w' hX hG hk => ?_⟩, ?_⟩
        · cases hG
        refine ⟨⟨fun _ _ u hu => .inr rfl, fun ρ w' hX hG hk => ?_⟩, ?_⟩
        · cases hG
        refine ⟨⟨fun _ _ u hu => .inr rfl, fun ρ w' hX hG hk => ?_⟩, ?_⟩
        · cases hG
        refine ⟨⟨fun _ _ u hu => .inr rfl, fun ρ w' hX hG hk => ?_⟩, ?_⟩
        · cases hG
        refine ⟨⟨fun _ _ u hu => .inr rfl, fun ρ w' hX hG hk => ?_⟩, ?_⟩
        · cases hG
        refine ⟨⟨fun _ _ u hu => .inr rfl, fun ρ w' hX hG hk => ?_⟩, ?_⟩
        · cases hG
        refine ⟨⟨fun _ _ u hu => .inr rfl, fun ρ w' hX hG hk => ?_⟩, ?_⟩
        · cases hG
        refine ⟨⟨fun _ _ u hu => .inr rfl, fun ρ w' hX hG hk => ?_⟩, ?_⟩
        · cases hG
        refine ⟨⟨fun _ _ u hu => .inr rfl, fun ρ w' hX hG hk => ?_⟩, ?_⟩
        · cases hG
        refine ⟨⟨fun _ _ u hu => .inr rfl, fun ρ w' hX hG hk => ?_⟩, ?_⟩
        · cases hG
        refine ⟨⟨fun _ _ u hu => .inr rfl, fun ρ w' hX hG hk => ?_⟩, ?_⟩
        · cases hG
        refine ⟨⟨fun _ _ u hu => .inr rfl, fun ρ w' hX hG hk => ?_⟩, ?_⟩
        · cases hG
        refine ⟨⟨fun _ _ u hu => .inr rfl, fun ρ w' hX hG hk => ?_⟩, ?_⟩
        · cases hG
        refine ⟨⟨fun _ _ => trivial, fun ρ w' hX hG hk => ?_⟩, ?_⟩
        · obtain ⟨(e0 : ρ (.tmp 21) = Value.bool false), (e1 : ρ (.tmp 35) = undef), (e2 : ρ (Operand.const (Value.bool false)) = (Value.bool false)), -⟩ := hk; refine Par.val_k fun K hK => ?_; unfold Par.val
          (go_simp; exact hK _ _ ⟨Ext.refl _, rfl⟩)
        trivial
      intro a' w' inv
      have hX := inv.ext
      have q17 : a'.tmps.getD 17 undef = Value.int IntKind.i64 (c : Int) := inv.done 0 _ 17 rfl rfl rfl
      have q18 : a'.tmps.getD 18 undef = Value.int IntKind.i64 (c2 : Int) := inv.done 1 _ 18 rfl rfl rfl
      have q19 : a'.tmps.getD 19 undef = Value.int IntKind.i64 (hi : Int) := inv.done 2 _ 19 rfl rfl rfl
      have q20 : a'.tmps.getD 20 undef = Value.bool false := inv.done 3 _ 20 rfl rfl rfl
      have q21 : a'.tmps.getD 21 undef = Value.bool false := inv.done 4 _ 21 rfl rfl rfl
      have q22 : a'.tmps.getD 22 undef = undef := inv.done 5 _ 22 rfl rfl rfl
      have q23 : a'.tmps.getD 23 undef = undef := inv.done 6 _ 23 rfl rfl rfl
      have q24 : a'.tmps.getD 24 undef = undef := inv.done 7 _ 24 rfl rfl rfl
      have q25 : a'.tmps.getD 25 undef = undef := inv.done 8 _ 25 rfl rfl rfl
      have q26 : a'.tmps.getD 26 undef = undef := inv.done 9 _ 26 rfl rfl rfl
      have q27 : a'.tmps.getD 27 undef = undef := inv.done 10 _ 27 rfl rfl rfl
      have q28 : a'.tmps.getD 28 undef = undef := inv.done 11 _ 28 rfl rfl rfl
      have q29 : a'.tmps.getD 29 undef = undef := inv.done 12 _ 29 rfl rfl rfl
      have q30 : a'.tmps.getD 30 undef = undef := inv.done 13 _ 30 rfl rfl rfl
      have q31 : a'.tmps.getD 31 undef = undef := inv.done 14 _ 31 rfl rfl rfl
      have q32 : a'.tmps.getD 32 undef = undef := inv.done 15 _ 32 rfl rfl rfl
      have q33 : a'.tmps.getD 33 undef = undef := inv.done 16 _ 33 rfl rfl rfl
      have q34 : a'.tmps.getD 34 undef = undef := inv.done 17 _ 34 rfl rfl rfl
      have q35 : a'.tmps.getD 35 undef = undef := inv.done 18 _ 35 rfl rfl rfl
      have q36 : a'.tmps.getD 36 undef = Value.bool false := inv.done 19 _ 36 rfl rfl rfl
      clear inv
      simp only [List.filterMap_cons, List.filterMap_nil, Par.putAll, Act.put, List.setIfInBounds_toArray, List.set_cons_succ, List.set_cons_zero, q17, q18, q19, q20, q21, q22, q23, q24, q25, q26, q27, q28, q29, q30, q31, q32, q33, q34, q35, q36]
      clear q17 q18 q19 q20 q21 q22 q23 q24 q25 q26 q27 q28 q29 q30 q31 q32 q33 q34 q35 q36
      clear a'
      have HF2 := hid (HF.out.trans (Ext.fr hX))
      have HR2 := hid (RA.ext hX HR.out)
      clear hX HF HR
      have HF := HF2
      have HR := HR2
      clear HF2 HR2
      obtain ⟨b1, Hb1⟩ : ∃ b, Hid (ltU z0 z1 = b) := ⟨_, hid rfl⟩
      have HIN : Hid (siftDown ltU hi first root d = if b1 then siftDown ltU hi first c (swp d i0 i1) else d) := hid (by rw [sift_left d HE.out.1 HE.out.2.2.1 HE.out.2.2.2.1 hci (fun hh => absurd hh (by have := HE.out.2.1; omega)), Hz0.out, Hz1.out, Hb1.out])
      go_wp2_with fail
      refine Par.wp_region_par (l := [_, _, _, _, _, _, _, _, _, _, _, _, _, _]) rfl Ext (Par.VL [Par.EQ (Value.slice (some ⟨g, 0, none⟩) n cap), Par.EQ (Value.int IntKind.i64 (first : Int)), Par.EQ (Value.int IntKind.i64 (root : Int)), Par.EQ (Value.int IntKind.i64 (i0 : Int)), Par.EQ (Value.pointer (some ⟨g, i0, none⟩)), Par.EQ (uv z0), Par.EQ (Value.slice (some ⟨g, 0, none⟩) n cap), Par.EQ (Value.int IntKind.i64 (first : Int)), Par.EQ (Value.int IntKind.i64 (c : Int)), Par.EQ (Value.int IntKind.i64 (i1 : Int)), Par.EQ (Value.pointer (some ⟨g, i1, none⟩)), Par.EQ (uv z1), Par.EQ (Value.bool b1), Par.EQ (Value.bool (!b1))]) (by kernel_rfl) Ext.refl (fun _ _ _ h1 h2 => Ext.trans h1 h2) (Ext.draw _) (Par.VL_stab ?_) ?_ ?_
      · simp only [List.forall_mem_cons, List.not_mem_nil, false_implies, implies_true, and_true]
        refine ⟨fun _ _ _ _ h => h, fun _ _ _ _ h => h, fun _ _ _ _ h => h, fun _ _ _ _ h => h, fun _ _ _ _ h => h, fun _ _ _ _ h => h, fun _ _ _ _ h => h, fun _ _ _ _ h => h, fun _ _ _ _ h => h, fun _ _ _ _ h => h, fun _ _ _ _ h => h, fun _ _ _ _ h => h, fun _ _ _ _ h => h, fun _ _ _ _ h => h⟩
      · refine ⟨⟨fun _ _ => trivial, fun ρ w' hX hG hk => ?_⟩, ?_⟩
        · exact Par.val_of_run rfl ⟨Ext.refl _, hk.1⟩
        refine ⟨⟨fun _ _ => trivial, fun ρ w' hX hG hk => ?_⟩, ?_⟩
        · exact Par.val_of_run rfl ⟨Ext.refl _, hk.1⟩
        refine ⟨⟨fun _ _ => trivial, fun ρ w' hX hG hk => ?_⟩, ?_⟩
        · exact Par.val_of_run rfl ⟨Ext.refl _, hk.1⟩
        refine ⟨⟨fun _ _ => trivial, fun ρ w' hX hG hk => ?_⟩, ?_⟩
        · obtain ⟨(e0 : ρ (.tmp 40) = Value.int IntKind.i64 (first : Int)), (e1 : ρ (.tmp 41) = Value.int IntKind.i64 (root : Int)), -⟩ := hk; refine Par.val_k fun K hK => ?_; unfold Par.val
          (go_simp; exact hK _ _ ⟨Ext.refl _, rfl⟩)
        refine ⟨⟨fun _ _ => trivial, fun ρ w' hX hG hk => ?_⟩, ?_⟩
        · obtain ⟨(e0 : ρ (.tmp 39) = Value.slice (some ⟨g, 0, none⟩) n cap), (e1 : ρ (.tmp 42) = Value.int IntKind.i64 (i0 : Int)), -⟩ := hk; refine Par.val_k fun K hK => ?_; unfold Par.val
          (go_simp; exact hK _ _ ⟨Ext.refl _, rfl⟩)
        refine ⟨⟨fun _ _ => trivial, fun ρ w' hX hG hk => ?_⟩, ?_⟩
        · obtain ⟨(e0 : ρ (.tmp 43) = Value.pointer (some ⟨g, i0, none⟩)), -⟩ := hk; refine Par.val_k fun K hK => ?_; unfold Par.val
          (have cc := HCz0.out _ (RA.ext hX HR.out); go_simp; exact hK _ _ ⟨Ext.refl _, rfl⟩)
        refine ⟨⟨fun _ _ => trivial, fun ρ w' hX hG hk => ?_⟩, ?_⟩
        · exact Par.val_of_run rfl ⟨Ext.refl _, hk.1⟩
        refine ⟨⟨fun _ _ => trivial, fun ρ w' hX hG hk => ?_⟩, ?_⟩
        · exact Par.val_of_run rfl ⟨Ext.refl _, hk.1⟩
        refine ⟨⟨fun _ _ => trivial, fun ρ w' hX hG hk => ?_⟩, ?_⟩
        · exact Par.val_of_run rfl ⟨Ext.refl _, hk.1⟩
        refine ⟨⟨fun _ _ => trivial, fun ρ w' hX hG hk => ?_⟩, ?_⟩
        · obtain ⟨(e0 : ρ (.tmp 46) = Value.int IntKind.i64 (first : Int)), (e1 : ρ (.tmp 47) = Value.int IntKind.i64 (c : Int)), -⟩ := hk; refine Par.val_k fun K hK => ?_; unfold Par.val
          (go_simp; exact hK _ _ ⟨Ext.refl _, rfl⟩)
        refine ⟨⟨fun _ _ => trivial, fun ρ w' hX hG hk => ?_⟩, ?_⟩
        · obtain ⟨(e0 : ρ (.tmp 45) = Value.slice (some ⟨g, 0, none⟩) n cap), (e1 : ρ (.tmp 48) = Value.int IntKind.i64 (i1 : Int)), -⟩ := hk; refine Par.val_k fun K hK => ?_; unfold Par.val
          (go_simp; exact hK _ _ ⟨Ext.refl _, rfl⟩)
        refine ⟨⟨fun _ _ => trivial, fun ρ w' hX hG hk => ?_⟩, ?_⟩
        · obtain ⟨(e0 : ρ (.tmp 49) = Value.pointer (some ⟨g, i1, none⟩)), -⟩ := hk; refine Par.val_k fun K hK => ?_; unfold Par.val
          (have cc := HCz1.out _ (RA.ext hX HR.out); go_simp; exact hK _ _ ⟨Ext.refl _, rfl⟩)
        refine ⟨⟨fun _ _ => trivial, fun ρ w' hX hG hk => ?_⟩, ?_⟩
        · obtain ⟨e0, (e1 : ρ (.tmp 44) = uv z0), (e2 : ρ (.tmp 50) = uv z1), -⟩ := hk; refine Par.val_k fun K hK => ?_; unfold Par.val
          refine Par.val_call Tryz.func121 (by kernel_rfl) rfl e0 ?_
          simp only [List.map_toArray, List.map_cons, List.map_nil, e1, e2]
          refine (lessU_any z0 z1 _).mono ?_
          rintro e w2 ⟨rfl, rfl⟩
          exact ⟨_, rfl, hK _ _ ⟨Ext.refl _, (congrArg Value.bool Hb1.out)⟩⟩
        refine ⟨⟨fun _ _ => trivial, fun ρ w' hX hG hk => ?_⟩, ?_⟩
        · obtain ⟨(e0 : ρ (.tmp 51) = Value.bool b1), -⟩ := hk; refine Par.val_k fun K hK => ?_; unfold Par.val
          (go_simp; exact hK _ _ ⟨Ext.refl _, rfl⟩)
        trivial
      intro a' w' inv
      have hX := inv.ext
      have q39 : a'.tmps.getD 39 undef = Value.slice (some ⟨g, 0, none⟩) n cap := inv.done 0 _ 39 rfl rfl rfl
      have q40 : a'.tmps.getD 40 undef = Value.int IntKind.i64 (first : Int) := inv.done 1 _ 40 rfl rfl rfl
      have q41 : a'.tmps.getD 41 undef = Value.int IntKind.i64 (root : Int) := inv.done 2 _ 41 rfl rfl rfl
      have q42 : a'.tmps.getD 42 undef = Value.int IntKind.i64 (i0 : Int) := inv.done 3 _ 42 rfl rfl rfl
      have q43 : a'.tmps.getD 43 undef = Value.pointer (some ⟨g, i0, none⟩) := inv.done 4 _ 43 rfl rfl rfl
      have q44 : a'.tmps.getD 44 undef = uv z0 := inv.done 5 _ 44 rfl rfl rfl
      have q45 : a'.tmps.getD 45 undef = Value.slice (some ⟨g, 0, none⟩) n cap := inv.done 6 _ 45 rfl rfl rfl
      have q46 : a'.tmps.getD 46 undef = Value.int IntKind.i64 (first : Int) := inv.done 7 _ 46 rfl rfl rfl
      have q47 : a'.tmps.getD 47 undef = Value.int IntKind.i64 (c : Int) := inv.done 8 _ 47 rfl rfl rfl
      have q48 : a'.tmps.getD 48 undef = Value.int IntKind.i64 (i1 : Int) := inv.done 9 _ 48 rfl rfl rfl
      have q49 : a'.tmps.getD 49 undef = Value.pointer (some ⟨g, i1, none⟩) := inv.done 10 _ 49 rfl rfl rfl
      have q50 : a'.tmps.getD 50 undef = uv z1 := inv.done 11 _ 50 rfl rfl rfl
      have q51 : a'.tmps.getD 51 undef = Value.bool b1 := inv.done 12 _ 51 rfl rfl rfl
      have q52 : a'.tmps.getD 52 undef = Value.bool (!b1) := inv.done 13 _ 52 rfl rfl rfl
      clear inv
      simp only [List.filterMap_cons, List.filterMap_nil, Par.putAll, Act.put, List.setIfInBounds_toArray, List.set_cons_succ, List.set_cons_zero, q39, q40, q41, q42, q43, q44, q45, q46, q47, q48, q49, q50, q51, q52]
      clear q39 q40 q41 q42 q43 q44 q45 q46 q47 q48 q49 q50 q51 q52
      clear a'
      have HF2 := hid (HF.out.trans (Ext.fr hX))
      have HR2 := hid (RA.ext hX HR.out)
      clear hX HF HR
      have HF := HF2
      have HR := HR2
      clear HF2 HR2
      cases b1
      case false =>
       have HO3 : Hid (d = D) := hid (by have := HO.out; rw [HIN.out] at this; simpa using this)
       go_wp2
       go_returns
       exact ⟨⟨_, rfl⟩, by have := HR.out; rw [HO3.out] at this; exact this, HF.out⟩
      case true =>
       have HO3 : Hid (siftDown ltU hi first c (swp d i0 i1) = D) := hid (by have := HO.out; rw [HIN.out] at this; simpa using this)
       go_wp2_with fail
       refine ParE.wp_region_e (l := [_, _, _, _, _, _, _, _, _, _, _, _, _, _, _, _, _, _, _, _, _, _, _, _]) rfl (Rg.Ch [21, 23] [] (SwV _ B g n cap i0 i1 z0 z1 d)) (ParC.VC [ParC.EQ (Value.slice (some ⟨g, 0, none⟩) n cap), ParC.EQ (Value.int IntKind.i64 (first : Int)), ParC.EQ (Value.int IntKind.i64 (root : Int)), ParC.EQ (Value.int IntKind.i64 (i0 : Int)), ParC.EQ (Value.slice (some ⟨g, 0, none⟩) n cap), ParC.EQ (Value.int IntKind.i64 (first : Int)), ParC.EQ (Value.int IntKind.i64 (c : Int)), ParC.EQ (Value.int IntKind.i64 (i1 : Int)), ParC.EQ (Value.slice (some ⟨g, 0, none⟩) n cap), ParC.EQ (Value.int IntKind.i64 (first : Int)), ParC.EQ (Value.int IntKind.i64 (c : Int)), ParC.EQ (Value.int IntKind.i64 (i1 : Int)), ParC.EQ (Value.pointer (some ⟨g, i1, none⟩)), ParC.EQ (uv z1), ParC.EQ (Value.slice (some ⟨g, 0, none⟩) n cap), ParC.EQ (Value.int IntKind.i64 (first : Int)), ParC.EQ (Value.int IntKind.i64 (root : Int)), ParC.EQ (Value.int IntKind.i64 (i0 : Int)), ParC.EQ (Value.pointer (some ⟨g, i0, none⟩)), ParC.EQ (uv z0), ParC.EQ (Value.pointer (some ⟨g, i0, none⟩)), fun _ => True, ParC.EQ (Value.pointer (some ⟨g, i1, none⟩)), fun _ => True]) (by kernel_rfl) (by kernel_rfl) (Rg.Ch.start ⟨fun _ => Ext.draw _, trivial⟩) ?_ ?_
       · refine ⟨fun L ρ w' hR hC hL hd hk => ?_, ?_⟩
         · exact Par.val_of_run rfl ⟨hR.other (by decide), hk.1⟩
         refine ⟨fun L ρ w' hR hC hL hd hk => ?_, ?_⟩
         · exact Par.val_of_run rfl ⟨hR.other (by decide), hk.1⟩
         refine ⟨fun L ρ w' hR hC hL hd hk => ?_, ?_⟩
         · exact Par.val_of_run rfl ⟨hR.other (by decide), hk.1⟩
         refine ⟨fun L ρ w' hR hC hL hd hk => ?_, ?_⟩
         · obtain ⟨(e0 : ρ (.tmp 54) = Value.int IntKind.i64 (first : Int)), (e1 : ρ (.tmp 55) = Value.int IntKind.i64 (root : Int)), -⟩ := hk; refine Par.val_k fun K hK => ?_; unfold Par.val
           (go_simp; exact hK _ _ ⟨hR.other (by decide), rfl⟩)
         refine ⟨fun L ρ w' hR hC hL hd hk => ?_, ?_⟩
         · exact Par.val_of_run rfl ⟨hR.other (by decide), hk.1⟩
         refine ⟨fun L ρ w' hR hC hL hd hk => ?_, ?_⟩
         · exact Par.val_of_run rfl ⟨hR.other (by decide), hk.1⟩
         refine ⟨fun L ρ w' hR hC hL hd hk => ?_, ?_⟩
         · exact Par.val_of_run rfl ⟨hR.other (by decide), hk.1⟩
         refine ⟨fun L ρ w' hR hC hL hd hk => ?_, ?_⟩
         · obtain ⟨(e0 : ρ (.tmp 58) = Value.int IntKind.i64 (first : Int)), (e1 : ρ (.tmp 59) = Value.int IntKind.i64 (c : Int)), -⟩ := hk; refine Par.val_k fun K hK => ?_; unfold Par.val
           (go_simp; exact hK _ _ ⟨hR.other (by decide), rfl⟩)
         refine ⟨fun L ρ w' hR hC hL hd hk => ?_, ?_⟩
         · exact Par.val_of_run rfl ⟨hR.other (by decide), hk.1⟩
         refine ⟨fun L ρ w' hR hC hL hd hk => ?_, ?_⟩
         · exact Par.val_of_run rfl ⟨hR.other (by decide), hk.1⟩
         refine ⟨fun L ρ w' hR hC hL hd hk => ?_, ?_⟩
         · exact Par.val_of_run rfl ⟨hR.other (by decide), hk.1⟩
         refine ⟨fun L ρ w' hR hC hL hd hk => ?_, ?_⟩
         · obtain ⟨(e0 : ρ (.tmp 62) = Value.int IntKind.i64 (first : Int)), (e1 : ρ (.tmp 63) = Value.int IntKind.i64 (c : Int)), -⟩ := hk; refine Par.val_k fun K hK => ?_; unfold Par.val
           (go_simp; exact hK _ _ ⟨hR.other (by decide), rfl⟩)
         refine ⟨fun L ρ w' hR hC hL hd hk => ?_, ?_⟩
         · obtain ⟨(e0 : ρ (.tmp 61) = Value.slice (some ⟨g, 0, none⟩) n cap), (e1 : ρ (.tmp 64) = Value.int IntKind.i64 (i1 : Int)), -⟩ := hk; refine Par.val_k fun K hK => ?_; unfold Par.val
           (go_simp; exact hK _ _ ⟨hR.other (by decide), rfl⟩)
         refine ⟨fun L ρ w' hR hC hL hd hk => ?_, ?_⟩
         · obtain ⟨(e0 : ρ (.tmp 65) = Value.pointer (some ⟨g, i1, none⟩)), -⟩ := hk; refine Par.val_k fun K hK => ?_; unfold Par.val
           (obtain ⟨ii, hii, hq⟩ := hR.some 0 rfl (hC.notyet 21 13 hL (by kernel_rfl)); have cc := HCz1.out _ (RA.ext (hq.1 (by omega)) HR.out); go_simp; exact hK _ _ ⟨hR.other (by decide), rfl⟩)
         refine ⟨fun L ρ w' hR hC hL hd hk => ?_, ?_⟩
         · exact Par.val_of_run rfl ⟨hR.other (by decide), hk.1⟩
         refine ⟨fun L ρ w' hR hC hL hd hk => ?_, ?_⟩
         · exact Par.val_of_run rfl ⟨hR.other (by decide), hk.1⟩
         refine ⟨fun L ρ w' hR hC hL hd hk => ?_, ?_⟩
         · exact Par.val_of_run rfl ⟨hR.other (by decide), hk.1⟩
         refine ⟨fun L ρ w' hR hC hL hd hk => ?_, ?_⟩
         · obtain ⟨(e0 : ρ (.tmp 68) = Value.int IntKind.i64 (first : Int)), (e1 : ρ (.tmp 69) = Value.int IntKind.i64 (root : Int)), -⟩ := hk; refine Par.val_k fun K hK => ?_; unfold Par.val
           (go_simp; exact hK _ _ ⟨hR.other (by decide), rfl⟩)
         refine ⟨fun L ρ w' hR hC hL hd hk => ?_, ?_⟩
         · obtain ⟨(e0 : ρ (.tmp 67) = Value.slice (some ⟨g, 0, none⟩) n cap), (e1 : ρ (.tmp 70) = Value.int IntKind.i64 (i0 : Int)), -⟩ := hk; refine Par.val_k fun K hK => ?_; unfold Par.val
           (go_simp; exact hK _ _ ⟨hR.other (by decide), rfl⟩)
         refine ⟨fun L ρ w' hR hC hL hd hk => ?_, ?_⟩
         · obtain ⟨(e0 : ρ (.tmp 71) = Value.pointer (some ⟨g, i0, none⟩)), -⟩ := hk; refine Par.val_k fun K hK => ?_; unfold Par.val
           (obtain ⟨ii, hii, hq⟩ := hR.some 0 rfl (hC.notyet 21 19 hL (by kernel_rfl)); have cc := HCz0.out _ (RA.ext (hq.1 (by omega)) HR.out); go_simp; exact hK _ _ ⟨hR.other (by decide), rfl⟩)
         refine ⟨fun L ρ w' hR hC hL hd hk => ?_, ?_⟩
         · obtain ⟨(e0 : ρ (.tmp 53) = Value.slice (some ⟨g, 0, none⟩) n cap), (e1 : ρ (.tmp 56) = Value.int IntKind.i64 (i0 : Int)), -⟩ := hk; refine Par.val_k fun K hK => ?_; unfold Par.val
           (go_simp; exact hK _ _ ⟨hR.other (by decide), rfl⟩)
         refine ⟨fun L ρ w' hR hC hL hd hk => ?_, ?_⟩
         · obtain ⟨(e0 : ρ (.tmp 73) = Value.pointer (some ⟨g, i0, none⟩)), (e1 : ρ (.tmp 66) = uv z1), -⟩ := hk; refine Par.val_k fun K hK => ?_; unfold Par.val
           (obtain ⟨hq, hs⟩ := hR.go 0 rfl hL (.inl rfl) (by decide); have hx := hq.1 (by decide); have hrow := RA.ext hx HR.out; obtain ⟨cc, ff⟩ := hrow.at (j := i0) (by omega); obtain ⟨hset, hfs⟩ := hrow.set i0 z1; have HSET := hid hset; have HFS := hid hfs; clear hset hfs hrow; go_simp; exact hK _ _ ⟨hs none _ _ ⟨fun h => absurd h (by decide), HSET.out, (Ext.fr hx).trans HFS.out⟩, trivial⟩)
         refine ⟨fun L ρ w' hR hC hL hd hk => ?_, ?_⟩
         · obtain ⟨(e0 : ρ (.tmp 57) = Value.slice (some ⟨g, 0, none⟩) n cap), (e1 : ρ (.tmp 60) = Value.int IntKind.i64 (i1 : Int)), -⟩ := hk; refine Par.val_k fun K hK => ?_; unfold Par.val
           (go_simp; exact hK _ _ ⟨hR.other (by decide), rfl⟩)
         refine ⟨fun L ρ w' hR hC hL hd hk => ?_, ?_⟩
         · obtain ⟨(e0 : ρ (.tmp 74) = Value.pointer (some ⟨g, i1, none⟩)), (e1 : ρ (.tmp 72) = uv z0), -⟩ := hk; refine Par.val_k fun K hK => ?_; unfold Par.val
           (obtain ⟨hq, hs⟩ := hR.go 1 rfl hL (.inr ⟨21, rfl, hC.before 21 (i := 23) rfl hd (by kernel_rfl)⟩) (by decide); obtain ⟨hrow, hfr⟩ := hq.2; obtain ⟨cc, ff⟩ := hrow.at (j := i1) (by omega); obtain ⟨hset, hfs⟩ := hrow.set i1 z0; have HSET := hid hset; have HFS := hid hfs; have HFR := hid hfr; clear hset hfs hrow hfr; go_simp; exact hK _ _ ⟨hs none _ _ ⟨fun h => absurd h (by decide), HSET.out, HFR.out.trans HFS.out⟩, trivial⟩)
         trivial
       intro a' w' inv hR
       have q53 : a'.tmps.getD 53 undef = Value.slice (some ⟨g, 0, none⟩) n cap := inv.done 0 _ 53 rfl rfl rfl
       have q54 : a'.tmps.getD 54 undef = Value.int IntKind.i64 (first : Int) := inv.done 1 _ 54 rfl rfl rfl
       have q55 : a'.tmps.getD 55 undef = Value.int IntKind.i64 (root : Int) := inv.done 2 _ 55 rfl rfl rfl
       have q56 : a'.tmps.getD 56 undef = Value.int IntKind.i64 (i0 : Int) := inv.done 3 _ 56 rfl rfl rfl
       have q57 : a'.tmps.getD 57 undef = Value.slice (some ⟨g, 0, none⟩) n cap := inv.done 4 _ 57 rfl rfl rfl
       have q58 : a'.tmps.getD 58 undef = Value.int IntKind.i64 (first : Int) := inv.done 5 _ 58 rfl rfl rfl
       have q59 : a'.tmps.getD 59 undef = Value.int IntKind.i64 (c : Int) := inv.done 6 _ 59 rfl rfl rfl
       have q60 : a'.tmps.getD 60 undef = Value.int IntKind.i64 (i1 : Int) := inv.done 7 _ 60 rfl rfl rfl
       have q61 : a'.tmps.getD 61 undef = Value.slice (some ⟨g, 0, none⟩) n cap := inv.done 8 _ 61 rfl rfl rfl
       have q62 : a'.tmps.getD 62 undef = Value.int IntKind.i64 (first : Int) := inv.done 9 _ 62 rfl rfl rfl
       have q63 : a'.tmps.getD 63 undef = Value.int IntKind.i64 (c : Int) := inv.done 10 _ 63 rfl rfl rfl
       have q64 : a'.tmps.getD 64 undef = Value.int IntKind.i64 (i1 : Int) := inv.done 11 _ 64 rfl rfl rfl
       have q65 : a'.tmps.getD 65 undef = Value.pointer (some ⟨g, i1, none⟩) := inv.done 12 _ 65 rfl rfl rfl
       have q66 : a'.tmps.getD 66 undef = uv z1 := inv.done 13 _ 66 rfl rfl rfl
       have q67 : a'.tmps.getD 67 undef = Value.slice (some ⟨g, 0, none⟩) n cap := inv.done 14 _ 67 rfl rfl rfl
       have q68 : a'.tmps.getD 68 undef = Value.int IntKind.i64 (first : Int) := inv.done 15 _ 68 rfl rfl rfl
       have q69 : a'.tmps.getD 69 undef = Value.int IntKind.i64 (root : Int) := inv.done 16 _ 69 rfl rfl rfl
       have q70 : a'.tmps.getD 70 undef = Value.int IntKind.i64 (i0 : Int) := inv.done 17 _ 70 rfl rfl rfl
       have q71 : a'.tmps.getD 71 undef = Value.pointer (some ⟨g, i0, none⟩) := inv.done 18 _ 71 rfl rfl rfl
       have q72 : a'.tmps.getD 72 undef = uv z0 := inv.done 19 _ 72 rfl rfl rfl
       have q73 : a'.tmps.getD 73 undef = Value.pointer (some ⟨g, i0, none⟩) := inv.done 20 _ 73 rfl rfl rfl
       have q74 : a'.tmps.getD 74 undef = Value.pointer (some ⟨g, i1, none⟩) := inv.done 22 _ 74 rfl rfl rfl
       clear inv
       simp only [List.filterMap_cons, List.filterMap_nil, Par.putAll, Act.put, List.setIfInBounds_toArray, List.set_cons_succ, List.set_cons_zero, q53, q54, q55, q56, q57, q58, q59, q60, q61, q62, q63, q64, q65, q66, q67, q68, q69, q70, q71, q72, q73, q74]
       clear q53 q54 q55 q56 q57 q58 q59 q60 q61 q62 q63 q64 q65 q66 q67 q68 q69 q70 q71 q72 q73 q74
       obtain ⟨-, hrd, hf⟩ := Rg.Ch.fin hR (by decide) 2 rfl; have HRD := hid hrd; have HF4 := hid hf; clear hrd hf hR
       try clear a'
       have HR3 := hid (RA.swp Hz0 Hz1 HRD.out)
       have HF3 := hid (HF.out.trans HF4.out)
       clear HRD HF4 HR HF
       have HR := HR3
       have HF := HF3
       clear HR3 HF3
       go_wp2
       go_roundw
       case rel => exact ⟨c, swp d i0 i1, by omega, by first | rfl | go_num, HR, HO3, HF⟩
       case measure => simp [intOf]; have := HE.out; omega
  · have HO2 : Hid (d = D) := hid (by have := HO.out; rw [sift_stop _ _ _ _ (by omega)] at this; exact this)
    clear hc hm
    go_wp2
    go_returns
    exact ⟨⟨_, rfl⟩, by have := HR.out; rw [HO2.out] at this; exact this, HF.out⟩
end Go.Proofs.YtmbigiihcplcjaaGreatDoor

set_option linter.unusedSimpArgs false
set_option linter.unusedVariables false
namespace Go.Proofs.YtmbigiihcplcjaaGreatDoor
open Go Go.RowKit Go.Tum Go.ChangeMaps Go.Sort
open Go.ParB (upd Lof)
open Go.ParE (putS slotsR slots Closed)

set_option maxRecDepth 100000 in
set_option maxHeartbeats 2000000 in
theorem heapV_any {B : Nat} {w : World} (g n cap a b : Nat) (d : Array UInt64) (h : RA w B g n cap d) (hab : a < b) (hbn : b ≤ n) (hbig : n ≤ 4611686018427387903) :
 Calls Tryz.prog 116 #[.slice (some ⟨g, 0, none⟩) n cap, .int .i64 (a : Int), .int .i64 (b : Int)] w fun e w' =>
  (∃ u, e = .returned u) ∧ RA w' B g n cap (heapSort ltU d a b) ∧ Fr [g] w w' := by
 obtain ⟨D, hD⟩ : ∃ D, heapSort ltU d a b = D := ⟨_, rfl⟩
 obtain ⟨h1, hh1⟩ : ∃ h1, h1 + 1 = b - a := ⟨b - a - 1, by omega⟩
 obtain ⟨hh, hhe⟩ : ∃ hh, hh = h1 + 1 := ⟨_, rfl⟩
 have HD : Hid (heapPop ltU a hh (heapBuild ltU hh a (h1 / 2 + 1) d) = D) := hid (by unfold heapSort at hD; rw [← hh1, show h1 + 1 - 1 = h1 by omega] at hD; rw [hhe]; exact hD)
 rw [hD]
 have H0 := hid h
 obtain ⟨hcap1, hcap2⟩ := h.bound
 clear h hD
 have hwb : IntKind.i64.wrap ((b : Int) - (a : Int)) = (hh : Int) := i64v _ (by omega) (by omega)
 have hwh : IntKind.i64.wrap ((hh : Int) - 1) = (h1 : Int) := i64v _ (by omega) (by omega)
 have hwq : IntKind.i64.wrap ((h1 : Int) / 2) = ((h1 / 2 : Nat) : Int) := i64v _ (by omega) (by omega)
 have hahn : a + hh ≤ n := by omega
 have hh1n : h1 + 1 ≤ n := by omega
 have HE := hid (And.intro hh1 hhe)
 clear hhe hh1
 go_enter Tryz.func116, Tryz.ntmps116
 go_wp2
 go_loopw [9] (fun iv wr => ∃ (k : Nat) (e : Array UInt64), k ≤ n ∧ iv = .int .i64 ((k : Int) - 1) ∧ Hid (RA wr B g n cap e) ∧ Hid (heapPop ltU a hh (heapBuild ltU hh a k e) = D) ∧ Hid (Fr [g] w wr)) (fun iv _ => (intOf iv + 1).toNat)
 case atStart => exact ⟨h1 / 2 + 1, d, by omega, by first | rfl | (congr 1; push_cast; omega) | go_num, H0, HD, hid (Fr.refl _ _)⟩
 case round =>
  clear H0 HD
  obtain ⟨k, d, hkn, rfl, HR, HO, HF⟩ := hrel
  rcases Nat.eq_zero_or_pos k with rfl | hk
  · have HO2 : Hid (heapPop ltU a hh d = D) := HO
    clear HO
    rw [show ((0 : Nat) : Int) - 1 = -1 from rfl]
    go_wp2
    go_loopw [10] (fun iv wr => ∃ (k : Nat) (e : Array UInt64), k ≤ hh ∧ iv = .int .i64 ((k : Int) - 1) ∧ Hid (RA wr B g n cap e) ∧ Hid (heapPop ltU a k e = D) ∧ Hid (Fr [g] w wr)) (fun iv _ => (intOf iv + 1).toNat)
    case atStart => exact ⟨hh, d, Nat.le_refl _, by first | rfl | exact congrArg _ (by have := HE.out.2; omega) | go_num, HR, HO2, HF⟩
    case round =>
     clear HO2 HR HF
     obtain ⟨k, d, hkh, rfl, HR, HO, HF⟩ := hrel
     rcases Nat.eq_zero_or_pos k with rfl | hk
     · have HO2 : Hid (d = D) := HO
       go_wp2
       go_returns
       exact ⟨⟨_, rfl⟩, by have := HR.out; rw [HO2.out] at this; exact this, HF.out⟩
     · obtain ⟨k, rfl⟩ : ∃ i, k = i + 1 := ⟨k - 1, by omega⟩
       have ek : ((k + 1 : Nat) : Int) - 1 = (k : Int) := by omega
       rw [ek]
       have hwk : IntKind.i64.wrap ((k : Int) - 1) = (k : Int) - 1 := IntWalk.i64_in _ (by omega)
       obtain ⟨p, hp⟩ : ∃ p, p = a + k := ⟨_, rfl⟩
       have hwp : IntKind.i64.wrap ((a : Int) + (k : Int)) = (p : Int) := i64v _ (by omega) (by omega)
       have han : a < n := by omega
       have han2 : (a : Int) < n := by omega
       have hpn : p < n := by omega
       have hpn2 : (p : Int) < n := by omega
       have hkn2 : a + k ≤ n := by omega
       obtain ⟨za, Hza, HCza⟩ := cellV (B := B) (g := g) (n := n) (cap := cap) d a (by omega)
       obtain ⟨zp, Hzp, HCzp⟩ := cellV (B := B) (g := g) (n := n) (cap := cap) d p (by omega)
       have HP := hid hp
       have HO3 : Hid (heapPop ltU a k (siftDown ltU k a 0 (swp d a p)) = D) := hid (by rw [hp]; exact HO.out)
       clear hp ek
       go_wp2_with fail
       refine ParE.wp_region_e (l := [_, _, _, _, _, _, _, _, _, _, _, _, _, _, _, _, _, _, _, _]) rfl (Rg.Ch [17, 19] [] (SwV _ B g n cap a p za zp d)) (ParC.VC [ParC.EQ (Value.slice (some ⟨g, 0, none⟩) n cap), ParC.EQ (Value.int IntKind.i64 (a : Int)), ParC.EQ (Value.slice (some ⟨g, 0, none⟩) n cap), ParC.EQ (Value.int IntKind.i64 (a : Int)), ParC.EQ (Value.int IntKind.i64 (k : Int)), ParC.EQ (Value.int IntKind.i64 (p : Int)), ParC.EQ (Value.slice (some ⟨g, 0, none⟩) n cap), ParC.EQ (Value.int IntKind.i64 (a : Int)), ParC.EQ (Value.int IntKind.i64 (k : Int)), ParC.EQ (Value.int IntKind.i64 (p : Int)), ParC.EQ (Value.pointer (some ⟨g, p, none⟩)), ParC.EQ (uv zp), ParC.EQ (Value.slice (some ⟨g, 0, none⟩) n cap), ParC.EQ (Value.int IntKind.i64 (a : Int)), ParC.EQ (Value.pointer (some ⟨g, a, none⟩)), ParC.EQ (uv za), ParC.EQ (Value.pointer (some ⟨g, a, none⟩)), fun _ => True, ParC.EQ (Value.pointer (some ⟨g, p, none⟩)), fun _ => True]) (by kernel_rfl) (by kernel_rfl) (Rg.Ch.start ⟨fun _ => Ext.draw _, trivial⟩) ?_ ?_
       · refine ⟨fun L ρ w' hR hC hL hd hk => ?_, ?_⟩
         · exact Par.val_of_run rfl ⟨hR.other (by decide), hk.1⟩
         refine ⟨fun L ρ w' hR hC hL hd hk => ?_, ?_⟩
         · exact Par.val_of_run rfl ⟨hR.other (by decide), hk.1⟩
         refine ⟨fun L ρ w' hR hC hL hd hk => ?_, ?_⟩
         · exact Par.val_of_run rfl ⟨hR.other (by decide), hk.1⟩
         refine ⟨fun L ρ w' hR hC hL hd hk => ?_, ?_⟩
         · exact Par.val_of_run rfl ⟨hR.other (by decide), hk.1⟩
         refine ⟨fun L ρ w' hR hC hL hd hk => ?_, ?_⟩
         · exact Par.val_of_run rfl ⟨hR.other (by decide), hk.1⟩
         refine ⟨fun L ρ w' hR hC hL hd hk => ?_, ?_⟩
         · obtain ⟨(e0 : ρ (.tmp 36) = Value.int IntKind.i64 (a : Int)), (e1 : ρ (.tmp 37) = Value.int IntKind.i64 (k : Int)), -⟩ := hk; refine Par.val_k fun K hK => ?_; unfold Par.val
           (go_simp; exact hK _ _ ⟨hR.other (by decide), rfl⟩)
         refine ⟨fun L ρ w' hR hC hL hd hk => ?_, ?_⟩
         · exact Par.val_of_run rfl ⟨hR.other (by decide), hk.1⟩
         refine ⟨fun L ρ w' hR hC hL hd hk => ?_, ?_⟩
         · exact Par.val_of_run rfl ⟨hR.other (by decide), hk.1⟩
         refine ⟨fun L ρ w' hR hC hL hd hk => ?_, ?_⟩
         · exact Par.val_of_run rfl ⟨hR.other (by decide), hk.1⟩
         refine ⟨fun L ρ w' hR hC hL hd hk => ?_, ?_⟩
         · obtain ⟨(e0 : ρ (.tmp 40) = Value.int IntKind.i64 (a : Int)), (e1 : ρ (.tmp 41) = Value.int IntKind.i64 (k : Int)), -⟩ := hk; refine Par.val_k fun K hK => ?_; unfold Par.val
           (go_simp; exact hK _ _ ⟨hR.other (by decide), rfl⟩)
         refine ⟨fun L ρ w' hR hC hL hd hk => ?_, ?_⟩
         · obtain ⟨(e0 : ρ (.tmp 39) = Value.slice (some ⟨g, 0, none⟩) n cap), (e1 : ρ (.tmp 42) = Value.int IntKind.i64 (p : Int)), -⟩ := hk; refine Par.val_k fun K hK => ?_; unfold Par.val
           (go_simp; exact hK _ _ ⟨hR.other (by decide), rfl⟩)
         refine ⟨fun L ρ w' hR hC hL hd hk => ?_, ?_⟩
         · obtain ⟨(e0 : ρ (.tmp 43) = Value.pointer (some ⟨g, p, none⟩)), -⟩ := hk; refine Par.val_k fun K hK => ?_; unfold Par.val
           (obtain ⟨ii, hii, hq⟩ := hR.some 0 rfl (hC.notyet 17 11 hL (by kernel_rfl)); have cc := HCzp.out _ (RA.ext (hq.1 (by omega)) HR.out); go_simp; exact hK _ _ ⟨hR.other (by decide), rfl⟩)
         refine ⟨fun L ρ w' hR hC hL hd hk => ?_, ?_⟩
         · exact Par.val_of_run rfl ⟨hR.other (by decide), hk.1⟩
         refine ⟨fun L ρ w' hR hC hL hd hk => ?_, ?_⟩
         · exact Par.val_of_run rfl ⟨hR.other (by decide), hk.1⟩
         refine ⟨fun L ρ w' hR hC hL hd hk => ?_, ?_⟩
         · obtain ⟨(e0 : ρ (.tmp 45) = Value.slice (some ⟨g, 0, none⟩) n cap), (e1 : ρ (.tmp 46) = Value.int IntKind.i64 (a : Int)), -⟩ := hk; refine Par.val_k fun K hK => ?_; unfold Par.val
           (go_simp; exact hK _ _ ⟨hR.other (by decide), rfl⟩)
         refine ⟨fun L ρ w' hR hC hL hd hk => ?_, ?_⟩
         · obtain ⟨(e0 : ρ (.tmp 47) = Value.pointer (some ⟨g, a, none⟩)), -⟩ := hk; refine Par.val_k fun K hK => ?_; unfold Par.val
           (obtain ⟨ii, hii, hq⟩ := hR.some 0 rfl (hC.notyet 17 15 hL (by kernel_rfl)); have cc := HCza.out _ (RA.ext (hq.1 (by omega)) HR.out); go_simp; exact hK _ _ ⟨hR.other (by decide), rfl⟩)
         refine ⟨fun L ρ w' hR hC hL hd hk => ?_, ?_⟩
         · obtain ⟨(e0 : ρ (.tmp 33) = Value.slice (some ⟨g, 0, none⟩) n cap), (e1 : ρ (.tmp 34) = Value.int IntKind.i64 (a : Int)), -⟩ := hk; refine Par.val_k fun K hK => ?_; unfold Par.val
           (go_simp; exact hK _ _ ⟨hR.other (by decide), rfl⟩)
         refine ⟨fun L ρ w' hR hC hL hd hk => ?_, ?_⟩
         · obtain ⟨(e0 : ρ (.tmp 49) = Value.pointer (some ⟨g, a, none⟩)), (e1 : ρ (.tmp 44) = uv zp), -⟩ := hk; refine Par.val_k fun K hK => ?_; unfold Par.val
           (obtain ⟨hq, hs⟩ := hR.go 0 rfl hL (.inl rfl) (by decide); have hx := hq.1 (by decide); have hrow := RA.ext hx HR.out; obtain ⟨cc, ff⟩ := hrow.at (j := a) (by omega); obtain ⟨hset, hfs⟩ := hrow.set a zp; have HSET := hid hset; have HFS := hid hfs; clear hset hfs hrow; go_simp; exact hK _ _ ⟨hs none _ _ ⟨fun h => absurd h (by decide), HSET.out, (Ext.fr hx).trans HFS.out⟩, trivial⟩)
         refine ⟨fun L ρ w' hR hC hL hd hk => ?_, ?_⟩
         · obtain ⟨(e0 : ρ (.tmp 35) = Value.slice (some ⟨g, 0, none⟩) n cap), (e1 : ρ (.tmp 38) = Value.int IntKind.i64 (p : Int)), -⟩ := hk; refine Par.val_k fun K hK => ?_; unfold Par.val
           (go_simp; exact hK _ _ ⟨hR.other (by decide), rfl⟩)
         refine ⟨fun L ρ w' hR hC hL hd hk => ?_, ?_⟩
         · obtain ⟨(e0 : ρ (.tmp 50) = Value.pointer (some ⟨g, p, none⟩)), (e1 : ρ (.tmp 48) = uv za), -⟩ := hk; refine Par.val_k fun K hK => ?_; unfold Par.val
           (obtain ⟨hq, hs⟩ := hR.go 1 rfl hL (.inr ⟨17, rfl, hC.before 17 (i := 19) rfl hd (by kernel_rfl)⟩) (by decide); obtain ⟨hrow, hfr⟩ := hq.2; obtain ⟨cc, ff⟩ := hrow.at (j := p) (by omega); obtain ⟨hset, hfs⟩ := hrow.set p za; have HSET := hid hset; have HFS := hid hfs; have HFR := hid hfr; clear hset hfs hrow hfr; go_simp; exact hK _ _ ⟨hs none _ _ ⟨fun h => absurd h (by decide), HSET.out, HFR.out.trans HFS.out⟩, trivial⟩)
         trivial
       intro a' w' inv hR
       have q33 : a'.tmps.getD 33 undef = Value.slice (some ⟨g, 0, none⟩) n cap := inv.done 0 _ 33 rfl rfl rfl
       have q34 : a'.tmps.getD 34 undef = Value.int IntKind.i64 (a : Int) := inv.done 1 _ 34 rfl rfl rfl
       have q35 : a'.tmps.getD 35 undef = Value.slice (some ⟨g, 0, none⟩) n cap := inv.done 2 _ 35 rfl rfl rfl
       have q36 : a'.tmps.getD 36 undef = Value.int IntKind.i64 (a : Int) := inv.done 3 _ 36 rfl rfl rfl
       have q37 : a'.tmps.getD 37 undef = Value.int IntKind.i64 (k : Int) := inv.done 4 _ 37 rfl rfl rfl
       have q38 : a'.tmps.getD 38 undef = Value.int IntKind.i64 (p : Int) := inv.done 5 _ 38 rfl rfl rfl
       have q39 : a'.tmps.getD 39 undef = Value.slice (some ⟨g, 0, none⟩) n cap := inv.done 6 _ 39 rfl rfl rfl
       have q40 : a'.tmps.getD 40 undef = Value.int IntKind.i64 (a : Int) := inv.done 7 _ 40 rfl rfl rfl
       have q41 : a'.tmps.getD 41 undef = Value.int IntKind.i64 (k : Int) := inv.done 8 _ 41 rfl rfl rfl
       have q42 : a'.tmps.getD 42 undef = Value.int IntKind.i64 (p : Int) := inv.done 9 _ 42 rfl rfl rfl
       have q43 : a'.tmps.getD 43 undef = Value.pointer (some ⟨g, p, none⟩) := inv.done 10 _ 43 rfl rfl rfl
       have q44 : a'.tmps.getD 44 undef = uv zp := inv.done 11 _ 44 rfl rfl rfl
       have q45 : a'.tmps.getD 45 undef = Value.slice (some ⟨g, 0, none⟩) n cap := inv.done 12 _ 45 rfl rfl rfl
       have q46 : a'.tmps.getD 46 undef = Value.int IntKind.i64 (a : Int) := inv.done 13 _ 46 rfl rfl rfl
       have q47 : a'.tmps.getD 47 undef = Value.pointer (some ⟨g, a, none⟩) := inv.done 14 _ 47 rfl rfl rfl
       have q48 : a'.tmps.getD 48 undef = uv za := inv.done 15 _ 48 rfl rfl rfl
       have q49 : a'.tmps.getD 49 undef = Value.pointer (some ⟨g, a, none⟩) := inv.done 16 _ 49 rfl rfl rfl
       have q50 : a'.tmps.getD 50 undef = Value.pointer (some ⟨g, p, none⟩) := inv.done 18 _ 50 rfl rfl rfl
       clear inv
       simp only [List.filterMap_cons, List.filterMap_nil, Par.putAll, Act.put, List.setIfInBounds_toArray, List.set_cons_succ, List.set_cons_zero, q33, q34, q35, q36, q37, q38, q39, q40, q41, q42, q43, q44, q45, q46, q47, q48, q49, q50]
       clear q33 q34 q35 q36 q37 q38 q39 q40 q41 q42 q43 q44 q45 q46 q47 q48 q49 q50
       obtain ⟨-, hrd, hf⟩ := Rg.Ch.fin hR (by decide) 2 rfl; have HRD := hid hrd; have HF4 := hid hf; clear hrd hf hR
       try clear a'
       have HR3 := hid (RA.swp Hza Hzp HRD.out)
       have HF3 := hid (HF.out.trans HF4.out)
       clear HRD HF4 HR HF
       have HR := HR3
       have HF := HF3
       clear HR3 HF3
       go_wp2_with fail
       refine (siftV_any g n cap 0 k a (swp d a p) HR.out (Nat.zero_le _) hkn2 hbig).mono ?_
       rintro e w1 ⟨⟨u, rfl⟩, hr, hf⟩
       have HR2 := hid hr
       have HF2 := hid (HF.out.trans hf)
       clear hr hf HR HF
       go_wp2
       go_roundw
       case rel => exact ⟨k, _, by omega, by first | rfl | go_num, HR2, HO3, HF2⟩
       case measure => simp [intOf] <;> omega
  · obtain ⟨k, rfl⟩ : ∃ i, k = i + 1 := ⟨k - 1, by omega⟩
    have ek : ((k + 1 : Nat) : Int) - 1 = (k : Int) := by omega
    rw [ek]
    have hwk : IntKind.i64.wrap ((k : Int) - 1) = (k : Int) - 1 := IntWalk.i64_in _ (by omega)
    have HO3 : Hid (heapPop ltU a hh (heapBuild ltU hh a k (siftDown ltU hh a k d)) = D) := HO
    clear ek
    go_wp2_with fail
    refine (siftV_any g n cap k hh a d HR.out (by omega) hahn hbig).mono ?_
    rintro e w1 ⟨⟨u, rfl⟩, hr, hf⟩
    have HR2 := hid hr
    have HF2 := hid (HF.out.trans hf)
    clear hr hf HR HF
    go_wp2
    go_roundw
    case rel => exact ⟨k, _, by omega, by first | rfl | go_num, HR2, HO3, HF2⟩
    case measure => simp [intOf] <;> omega
end Go.Proofs.YtmbigiihcplcjaaGreatDoor

set_option linter.unusedSimpArgs false
set_option linter.unusedVariables false
namespace Go.Proofs.YtmbigiihcplcjaaGreatDoor
open Go Go.RowKit Go.Tum Go.ChangeMaps Go.Sort
open Go.ParB (upd Lof)
open Go.ParE (putS slotsR slots Closed)

set_option maxRecDepth 100000 in
set_option maxHeartbeats 2000000 in
theorem revV_any {B : Nat} {w : World} (g n cap a b : Nat) (d : Array UInt64) (h : RA w B g n cap d) (hab : a < b) (hbn : b ≤ n) (hbig : n ≤ 4611686018427387903) :
 Calls Tryz.prog 119 #[.slice (some ⟨g, 0, none⟩) n cap, .int .i64 (a : Int), .int .i64 (b : Int)] w fun e w' =>
  (∃ u, e = .returned u) ∧ RA w' B g n cap (reverseRange d a b) ∧ Fr [g] w w' := by
 obtain ⟨D, hD⟩ : ∃ D, reverseRange d a b = D := ⟨_, rfl⟩
 have HD : Hid (reverseLoop a (b - 1) d = D) := hid hD
 rw [hD]
 have H0 := hid h
 obtain ⟨hcap1, hcap2⟩ := h.bound
 clear h hD
 obtain ⟨b1, hb1⟩ : ∃ b1, b1 + 1 = b := ⟨b - 1, by omega⟩
 have hwb : IntKind.i64.wrap ((b : Int) - 1) = (b1 : Int) := i64v _ (by omega) (by omega)
 have HB := hid hb1
 have HD2 : Hid (reverseLoop a b1 d = D) := hid (by have := HD.out; rw [show b - 1 = b1 by omega] at this; exact this)
 clear hb1
 go_enter Tryz.func119, Tryz.ntmps119
 go_wp2
 go_loopw [6, 7] (fun iv jv wr => ∃ (i j : Nat) (e : Array UInt64), i ≤ n ∧ j < n ∧ iv = .int .i64 (i : Int) ∧ jv = .int .i64 (j : Int) ∧ Hid (RA wr B g n cap e) ∧ Hid (reverseLoop i j e = D) ∧ Hid (Fr [g] w wr)) (fun iv _ _ => n + 1 - (intOf iv).toNat)
 case atStart => exact ⟨a, b1, d, by omega, by have := HB.out; omega, by first | rfl | go_num, by first | rfl | go_num, H0, HD2, hid (Fr.refl _ _)⟩
 case round =>
  clear H0 HD HD2
  obtain ⟨i, j, d, hin, hjn, rfl, rfl, HR, HO, HF⟩ := hrel
  rcases Nat.lt_or_ge i j with hij | hij
  · have hwi : IntKind.i64.wrap ((i : Int) + 1) = ((i + 1 : Nat) : Int) := i64v _ (by omega) (by omega)
    have hwj : IntKind.i64.wrap ((j : Int) - 1) = ((j - 1 : Nat) : Int) := i64v _ (by omega) (by omega)
    have hin1 : i < n := by omega
    have hin2 : (i : Int) < n := by omega
    have hjn2 : (j : Int) < n := by omega
    obtain ⟨zi, Hzi, HCzi⟩ := cellV (B := B) (g := g) (n := n) (cap := cap) d i (by omega)
    obtain ⟨zj, Hzj, HCzj⟩ := cellV (B := B) (g := g) (n := n) (cap := cap) d j (by omega)
    have HO3 : Hid (reverseLoop (i + 1) (j - 1) (swp d i j) = D) := hid (by have := HO.out; rw [reverseLoop, if_pos hij] at this; exact this)
    go_wp2_with fail
    refine ParE.wp_region_e (l := [_, _, _, _, _, _, _, _, _, _, _, _, _, _, _, _]) rfl (Rg.Ch [13, 15] [] (SwV _ B g n cap i j zi zj d)) (ParC.VC [ParC.EQ (Value.slice (some ⟨g, 0, none⟩) n cap), ParC.EQ (Value.int IntKind.i64 (i : Int)), ParC.EQ (Value.slice (some ⟨g, 0, none⟩) n cap), ParC.EQ (Value.int IntKind.i64 (j : Int)), ParC.EQ (Value.slice (some ⟨g, 0, none⟩) n cap), ParC.EQ (Value.int IntKind.i64 (j : Int)), ParC.EQ (Value.pointer (some ⟨g, j, none⟩)), ParC.EQ (uv zj), ParC.EQ (Value.slice (some ⟨g, 0, none⟩) n cap), ParC.EQ (Value.int IntKind.i64 (i : Int)), ParC.EQ (Value.pointer (some ⟨g, i, none⟩)), ParC.EQ (uv zi), ParC.EQ (Value.pointer (some ⟨g, i, none⟩)), fun _ => True, ParC.EQ (Value.pointer (some ⟨g, j, none⟩)), fun _ => True]) (by kernel_rfl) (by kernel_rfl) (Rg.Ch.start ⟨fun _ => Ext.draw _, trivial⟩) ?_ ?_
    · refine ⟨fun L ρ w' hR hC hL hd hk => ?_, ?_⟩
      · exact Par.val_of_run rfl ⟨hR.other (by decide), hk.1⟩
      refine ⟨fun L ρ w' hR hC hL hd hk => ?_, ?_⟩
      · exact Par.val_of_run rfl ⟨hR.other (by decide), hk.1⟩
      refine ⟨fun L ρ w' hR hC hL hd hk => ?_, ?_⟩
      · exact Par.val_of_run rfl ⟨hR.other (by decide), hk.1⟩
      refine ⟨fun L ρ w' hR hC hL hd hk => ?_, ?_⟩
      · exact Par.val_of_run rfl ⟨hR.other (by decide), hk.1⟩
      refine ⟨fun L ρ w' hR hC hL hd hk => ?_, ?_⟩
      · exact Par.val_of_run rfl ⟨hR.other (by decide), hk.1⟩
      refine ⟨fun L ρ w' hR hC hL hd hk => ?_, ?_⟩
      · exact Par.val_of_run rfl ⟨hR.other (by decide), hk.1⟩
      refine ⟨fun L ρ w' hR hC hL hd hk => ?_, ?_⟩
      · obtain ⟨(e0 : ρ (.tmp 18) = Value.slice (some ⟨g, 0, none⟩) n cap), (e1 : ρ (.tmp 19) = Value.int IntKind.i64 (j : Int)), -⟩ := hk; refine Par.val_k fun K hK => ?_; unfold Par.val
        (go_simp; exact hK _ _ ⟨hR.other (by decide), rfl⟩)
      refine ⟨fun L ρ w' hR hC hL hd hk => ?_, ?_⟩
      · obtain ⟨(e0 : ρ (.tmp 20) = Value.pointer (some ⟨g, j, none⟩)), -⟩ := hk; refine Par.val_k fun K hK => ?_; unfold Par.val
        (obtain ⟨ii, hii, hq⟩ := hR.some 0 rfl (hC.notyet 13 7 hL (by kernel_rfl)); have cc := HCzj.out _ (RA.ext (hq.1 (by omega)) HR.out); go_simp; exact hK _ _ ⟨hR.other (by decide), rfl⟩)
      refine ⟨fun L ρ w' hR hC hL hd hk => ?_, ?_⟩
      · exact Par.val_of_run rfl ⟨hR.other (by decide), hk.1⟩
      refine ⟨fun L ρ w' hR hC hL hd hk => ?_, ?_⟩
      · exact Par.val_of_run rfl ⟨hR.other (by decide), hk.1⟩
      refine ⟨fun L ρ w' hR hC hL hd hk => ?_, ?_⟩
      · obtain ⟨(e0 : ρ (.tmp 22) = Value.slice (some ⟨g, 0, none⟩) n cap), (e1 : ρ (.tmp 23) = Value.int IntKind.i64 (i : Int)), -⟩ := hk; refine Par.val_k fun K hK => ?_; unfold Par.val
        (go_simp; exact hK _ _ ⟨hR.other (by decide), rfl⟩)
      refine ⟨fun L ρ w' hR hC hL hd hk => ?_, ?_⟩
      · obtain ⟨(e0 : ρ (.tmp 24) = Value.pointer (some ⟨g, i, none⟩)), -⟩ := hk; refine Par.val_k fun K hK => ?_; unfold Par.val
        (obtain ⟨ii, hii, hq⟩ := hR.some 0 rfl (hC.notyet 13 11 hL (by kernel_rfl)); have cc := HCzi.out _ (RA.ext (hq.1 (by omega)) HR.out); go_simp; exact hK _ _ ⟨hR.other (by decide), rfl⟩)
      refine ⟨fun L ρ w' hR hC hL hd hk => ?_, ?_⟩
      · obtain ⟨(e0 : ρ (.tmp 14) = Value.slice (some ⟨g, 0, none⟩) n cap), (e1 : ρ (.tmp 15) = Value.int IntKind.i64 (i : Int)), -⟩ := hk; refine Par.val_k fun K hK => ?_; unfold Par.val
        (go_simp; exact hK _ _ ⟨hR.other (by decide), rfl⟩)
      refine ⟨fun L ρ w' hR hC hL hd hk => ?_, ?_⟩
      · obtain ⟨(e0 : ρ (.tmp 26) = Value.pointer (some ⟨g, i, none⟩)), (e1 : ρ (.tmp 21) = uv zj), -⟩ := hk; refine Par.val_k fun K hK => ?_; unfold Par.val
        (obtain ⟨hq, hs⟩ := hR.go 0 rfl hL (.inl rfl) (by decide); have hx := hq.1 (by decide); have hrow := RA.ext hx HR.out; obtain ⟨cc, ff⟩ := hrow.at (j := i) (by omega); obtain ⟨hset, hfs⟩ := hrow.set i zj; have HSET := hid hset; have HFS := hid hfs; clear hset hfs hrow; go_simp; exact hK _ _ ⟨hs none _ _ ⟨fun h => absurd h (by decide), HSET.out, (Ext.fr hx).trans HFS.out⟩, trivial⟩)
      refine ⟨fun L ρ w' hR hC hL hd hk => ?_, ?_⟩
      · obtain ⟨(e0 : ρ (.tmp 16) = Value.slice (some ⟨g, 0, none⟩) n cap), (e1 : ρ (.tmp 17) = Value.int IntKind.i64 (j : Int)), -⟩ := hk; refine Par.val_k fun K hK => ?_; unfold Par.val
        (go_simp; exact hK _ _ ⟨hR.other (by decide), rfl⟩)
      refine ⟨fun L ρ w' hR hC hL hd hk => ?_, ?_⟩
      · obtain ⟨(e0 : ρ (.tmp 27) = Value.pointer (some ⟨g, j, none⟩)), (e1 : ρ (.tmp 25) = uv zi), -⟩ := hk; refine Par.val_k fun K hK => ?_; unfold Par.val
        (obtain ⟨hq, hs⟩ := hR.go 1 rfl hL (.inr ⟨13, rfl, hC.before 13 (i := 15) rfl hd (by kernel_rfl)⟩) (by decide); obtain ⟨hrow, hfr⟩ := hq.2; obtain ⟨cc, ff⟩ := hrow.at (j := j) (by omega); obtain ⟨hset, hfs⟩ := hrow.set j zi; have HSET := hid hset; have HFS := hid hfs; have HFR := hid hfr; clear hset hfs hrow hfr; go_simp; exact hK _ _ ⟨hs none _ _ ⟨fun h => absurd h (by decide), HSET.out, HFR.out.trans HFS.out⟩, trivial⟩)
      trivial
    intro a' w' inv hR
    have q14 : a'.tmps.getD 14 undef = Value.slice (some ⟨g, 0, none⟩) n cap := inv.done 0 _ 14 rfl rfl rfl
    have q15 : a'.tmps.getD 15 undef = Value.int IntKind.i64 (i : Int) := inv.done 1 _ 15 rfl rfl rfl
    have q16 : a'.tmps.getD 16 undef = Value.slice (some ⟨g, 0, none⟩) n cap := inv.done 2 _ 16 rfl rfl rfl
    have q17 : a'.tmps.getD 17 undef = Value.int IntKind.i64 (j : Int) := inv.done 3 _ 17 rfl rfl rfl
    have q18 : a'.tmps.getD 18 undef = Value.slice (some ⟨g, 0, none⟩) n cap := inv.done 4 _ 18 rfl rfl rfl
    have q19 : a'.tmps.getD 19 undef = Value.int IntKind.i64 (j : Int) := inv.done 5 _ 19 rfl rfl rfl
    have q20 : a'.tmps.getD 20 undef = Value.pointer (some ⟨g, j, none⟩) := inv.done 6 _ 20 rfl rfl rfl
    have q21 : a'.tmps.getD 21 undef = uv zj := inv.done 7 _ 21 rfl rfl rfl
    have q22 : a'.tmps.getD 22 undef = Value.slice (some ⟨g, 0, none⟩) n cap := inv.done 8 _ 22 rfl rfl rfl
    have q23 : a'.tmps.getD 23 undef = Value.int IntKind.i64 (i : Int) := inv.done 9 _ 23 rfl rfl rfl
    have q24 : a'.tmps.getD 24 undef = Value.pointer (some ⟨g, i, none⟩) := inv.done 10 _ 24 rfl rfl rfl
    have q25 : a'.tmps.getD 25 undef = uv zi := inv.done 11 _ 25 rfl rfl rfl
    have q26 : a'.tmps.getD 26 undef = Value.pointer (some ⟨g, i, none⟩) := inv.done 12 _ 26 rfl rfl rfl
    have q27 : a'.tmps.getD 27 undef = Value.pointer (some ⟨g, j, none⟩) := inv.done 14 _ 27 rfl rfl rfl
    clear inv
    simp only [List.filterMap_cons, List.filterMap_nil, Par.putAll, Act.put, List.setIfInBounds_toArray, List.set_cons_succ, List.set_cons_zero, q14, q15, q16, q17, q18, q19, q20, q21, q22, q23, q24, q25, q26, q27]
    clear q14 q15 q16 q17 q18 q19 q20 q21 q22 q23 q24 q25 q26 q27
    obtain ⟨-, hrd, hf⟩ := Rg.Ch.fin hR (by decide) 2 rfl; have HRD := hid hrd; have HF4 := hid hf; clear hrd hf hR
    try clear a'
    have HR3 := hid (RA.swp Hzi Hzj HRD.out)
    have HF3 := hid (HF.out.trans HF4.out)
    clear HRD HF4 HR HF
    have HR := HR3
    have HF := HF3
    clear HR3 HF3
    go_wp2
    go_roundw
    case rel => exact ⟨i + 1, j - 1, swp d i j, by omega, by omega, by first | rfl | go_num, by first | rfl | exact congrArg _ hwj, HR, HO3, HF⟩
    case measure => simp [intOf] <;> omega
  · have hnl : (i < j) = False := by simp; omega
    have HO2 : Hid (d = D) := hid (by have := HO.out; rw [reverseLoop, if_neg (by omega)] at this; exact this)
    go_wp2
    go_returns
    exact ⟨⟨_, rfl⟩, by have := HR.out; rw [HO2.out] at this; exact this, HF.out⟩
end Go.Proofs.YtmbigiihcplcjaaGreatDoor

