/- The document's frames: Same. -/
import Derived.Test.YtbecahknondmeaaFrmL
import Derived.Test.YtbecahknondmeaaFrmD
import Derived.Test.YtbecahknondmeaaSame
namespace Go.Proofs.Ytbecahknondmeaa
open Go.RowKit Go.Tum Go.Tum.Crc

def samesB (l m : List Fr) : Bool := decide (l = m)
theorem samesB_ne {l m : List Fr} (h : l ≠ m) : samesB l m = false := by simp [samesB, h]
theorem samesB_eq {l m : List Fr} (h : l = m) : samesB l m = true := by simp [samesB, h]
theorem int_kind_ne {a b : UInt8} (h : a ≠ b) : ((a.toNat : Int) != (b.toNat : Int)) = true := by
  rw [bne_iff_ne]; intro e; exact h (UInt8.toNat_inj.1 (by omega))
theorem int_kind_eq {a b : UInt8} (h : a = b) : ((a.toNat : Int) != (b.toNat : Int)) = false := by subst h; simp

set_option maxRecDepth 100000 in
set_option maxHeartbeats 1000000 in
theorem rsames_any (u v : Value) (l m : List Fr) (w : World) (hb : Frs w u l) (hc : Frs w v m) (hl : l.length ≤ 1048576) (hm : m.length ≤ 1048576) :
    Calls Try.prog 16 #[u, v] w fun e w' => e = .returned (.bool (samesB l m)) ∧ Ext w w' := by
  obtain ⟨p, rfl, hr, hB⟩ := hb
  obtain ⟨q, rfl, hr2, hB2⟩ := hc
  simp only [List.length_map] at hl hm
  obtain ⟨ao, cap, rfl, hc1, hc2, hc3, hcell⟩ := hr.open
  obtain ⟨bo, cbp, rfl, hd1, hd2, hd3, hcell2⟩ := hr2.open
  have HC := hid hcell
  have HD := hid hcell2
  have HB := hid hB
  have HB2 := hid hB2
  have H3 := hid hc3
  have H4 := hid hd3
  clear hcell hcell2 hB hB2 hr hr2 hc3 hd3
  by_cases hlen : p.length = q.length
  · have hne : ((p.length : Int) != (q.length : Int)) = false := by simp [hlen]
    have HLEN := hid hlen
    clear hlen
    go_enter Try.func16, Try.ntmps16
    go_wp2
    go_loopw [5] (fun i wr => ∃ k : Nat, k ≤ p.length ∧ i = .int .i64 k ∧ Hid ((p.map (·.1)).take k = (q.map (·.1)).take k) ∧ Hid (Ext w wr)) (fun i _ => p.length - (intOf i).toNat)
    case atStart => exact ⟨0, by omega, rfl, hid (by simp), Ext.refl _⟩
    case round =>
      obtain ⟨k, hk, rfl, HT, HE⟩ := hrel
      by_cases hlt : k < p.length
      · have hlt2 : k < q.length := by rw [← HLEN.out]; exact hlt
        obtain ⟨a, rfl⟩ := H3.out (by omega)
        obtain ⟨b, rfl⟩ := H4.out (by omega)
        have C0 := hid (cell_first (HE.out.cell (HC.out a rfl k hlt 0 _ rfl)))
        have C1 := hid (cell_next (HE.out.cell (HC.out a rfl k hlt 1 _ rfl)) (by decide))
        have D0 := hid (cell_first (HE.out.cell (HD.out b rfl k hlt2 0 _ rfl)))
        have D1 := hid (cell_next (HE.out.cell (HD.out b rfl k hlt2 1 _ rfl)) (by decide))
        have B1 := hid ((HB.out p[k] (List.getElem_mem hlt)).ext HE.out)
        have B2 := hid ((HB2.out q[k] (List.getElem_mem hlt2)).ext HE.out)
        have hI : (k : Int) < p.length := by omega
        have hI2 : (k : Int) < q.length := by omega
        have hI0 : (0 : Int) ≤ k := by omega
        by_cases hkk : p[k].1.kind = q[k].1.kind
        · have hkn := int_kind_eq hkk
          obtain ⟨X, hX0⟩ : ∃ X, p[k].1.body = X := ⟨_, rfl⟩
          obtain ⟨Y, hY0⟩ : ∃ Y, q[k].1.body = Y := ⟨_, rfl⟩
          obtain ⟨U, hU0⟩ : ∃ U, p[k].2 = U := ⟨_, rfl⟩
          obtain ⟨V, hV0⟩ : ∃ V, q[k].2 = V := ⟨_, rfl⟩
          obtain ⟨BB, hBB⟩ : ∃ BB, (X == Y) = BB := ⟨_, rfl⟩
          have hstep : (X = Y) ↔ p[k].1 = q[k].1 := by
            rw [← hX0, ← hY0]
            constructor
            · intro h
              cases hp : p[k].1; cases hq : q[k].1
              rw [hp, hq] at hkk h
              simp only at hkk h
              rw [hkk, h]
            · intro h; rw [h]
          have HSTEP := hid hstep
          rw [hX0, hU0] at B1
          rw [hY0, hV0] at B2
          rw [hU0] at C1
          rw [hV0] at D1
          have hone : ∃ x n y, U = .slice x n y := by
            obtain ⟨x, y, h, -⟩ := B1.out.open
            exact ⟨x, _, y, h⟩
          have hone2 : ∃ x n y, V = .slice x n y := by
            obtain ⟨x, y, h, -⟩ := B2.out.open
            exact ⟨x, _, y, h⟩
          have HBB := hid hBB
          clear hstep hX0 hY0 hU0 hV0 hkk
          generalize (p[k].1.kind.toNat : Int) = P at *
          generalize (q[k].1.kind.toNat : Int) = Q at *
          go_wp2_with fail
          refine Par.wp_region_par (l := [_, _, _, _, _, _, _, _, _, _, _, _, _, _, _, _, _, _, _, _, _, _, _, _, _]) rfl Ext (Par.VL [Par.EQ (Value.slice (some a) p.length cap), Par.EQ (Value.int IntKind.i64 (k : Int)), Par.EQ (Value.pointer (some (a.add (k * 2)))), Par.EQ (Value.pointer (some (a.add (k * 2)))), Par.EQ (Value.int IntKind.u8 P), Par.EQ (Value.slice (some b) q.length cbp), Par.EQ (Value.int IntKind.i64 (k : Int)), Par.EQ (Value.pointer (some (b.add (k * 2)))), Par.EQ (Value.pointer (some (b.add (k * 2)))), Par.EQ (Value.int IntKind.u8 Q), Par.EQ (Value.bool false), Par.EQ (Value.bool false), Par.EQ (Value.slice (some a) p.length cap), Par.EQ (Value.int IntKind.i64 (k : Int)), Par.EQ (Value.pointer (some (a.add (k * 2)))), Par.EQ (Value.pointer (some ⟨(a.add (k * 2)).block, (a.add (k * 2)).off + 1, none⟩)), Par.EQ (U), Par.EQ (Value.slice (some b) q.length cbp), Par.EQ (Value.int IntKind.i64 (k : Int)), Par.EQ (Value.pointer (some (b.add (k * 2)))), Par.EQ (Value.pointer (some ⟨(b.add (k * 2)).block, (b.add (k * 2)).off + 1, none⟩)), Par.EQ (V), Par.EQ (Value.bool BB), Par.EQ (Value.bool (!BB)), Par.EQ (Value.bool (!BB))]) (by kernel_rfl) Ext.refl (fun _ _ _ h1 h2 => Ext.trans h1 h2) (Ext.draw _) (Par.VL_stab ?_) ?_ ?_
          · simp only [List.forall_mem_cons, List.not_mem_nil, false_implies, implies_true, and_true]
            refine ⟨fun _ _ _ _ h => h, fun _ _ _ _ h => h, fun _ _ _ _ h => h, fun _ _ _ _ h => h, fun _ _ _ _ h => h, fun _ _ _ _ h => h, fun _ _ _ _ h => h, fun _ _ _ _ h => h, fun _ _ _ _ h => h, fun _ _ _ _ h => h, fun _ _ _ _ h => h, fun _ _ _ _ h => h, fun _ _ _ _ h => h, fun _ _ _ _ h => h, fun _ _ _ _ h => h, fun _ _ _ _ h => h, fun _ _ _ _ h => h, fun _ _ _ _ h => h, fun _ _ _ _ h => h, fun _ _ _ _ h => h, fun _ _ _ _ h => h, fun _ _ _ _ h => h, fun _ _ _ _ h => h, fun _ _ _ _ h => h, fun _ _ _ _ h => h⟩
          · refine ⟨⟨fun _ _ => trivial, fun ρ w' hX hG hk => ?_⟩, ?_⟩
            · exact Par.val_of_run rfl ⟨Ext.refl _, hk.1⟩
            refine ⟨⟨fun _ _ => trivial, fun ρ w' hX hG hk => ?_⟩, ?_⟩
            · exact Par.val_of_run rfl ⟨Ext.refl _, hk.1⟩
            refine ⟨⟨fun _ _ => trivial, fun ρ w' hX hG hk => ?_⟩, ?_⟩
            · obtain ⟨k0, k1, -⟩ := hk
              have e0 : ρ (.tmp 17) = Value.slice (some a) p.length cap := k0
              have e1 : ρ (.tmp 18) = Value.int IntKind.i64 (k : Int) := k1
              clear k0 k1
              refine Par.val_k fun K hK => ?_
              unfold Par.val
              (go_simp; exact hK _ _ ⟨Ext.refl _, rfl⟩)
            refine ⟨⟨fun _ _ => trivial, fun ρ w' hX hG hk => ?_⟩, ?_⟩
            · obtain ⟨k0, -⟩ := hk
              have e0 : ρ (.tmp 19) = Value.pointer (some (a.add (k * 2))) := k0
              clear k0
              refine Par.val_k fun K hK => ?_
              unfold Par.val
              (go_simp; exact hK _ _ ⟨Ext.refl _, rfl⟩)
            refine ⟨⟨fun _ _ => trivial, fun ρ w' hX hG hk => ?_⟩, ?_⟩
            · obtain ⟨k0, -⟩ := hk
              have e0 : ρ (.tmp 20) = Value.pointer (some (a.add (k * 2))) := k0
              clear k0
              refine Par.val_k fun K hK => ?_
              unfold Par.val
              (have c := hX.cell C0.out; go_simp; exact hK _ _ ⟨Ext.refl _, rfl⟩)
            refine ⟨⟨fun _ _ => trivial, fun ρ w' hX hG hk => ?_⟩, ?_⟩
            · exact Par.val_of_run rfl ⟨Ext.refl _, hk.1⟩
            refine ⟨⟨fun _ _ => trivial, fun ρ w' hX hG hk => ?_⟩, ?_⟩
            · exact Par.val_of_run rfl ⟨Ext.refl _, hk.1⟩
            refine ⟨⟨fun _ _ => trivial, fun ρ w' hX hG hk => ?_⟩, ?_⟩
            · obtain ⟨k0, k1, -⟩ := hk
              have e0 : ρ (.tmp 22) = Value.slice (some b) q.length cbp := k0
              have e1 : ρ (.tmp 23) = Value.int IntKind.i64 (k : Int) := k1
              clear k0 k1
              refine Par.val_k fun K hK => ?_
              unfold Par.val
              (go_simp; exact hK _ _ ⟨Ext.refl _, rfl⟩)
            refine ⟨⟨fun _ _ => trivial, fun ρ w' hX hG hk => ?_⟩, ?_⟩
            · obtain ⟨k0, -⟩ := hk
              have e0 : ρ (.tmp 24) = Value.pointer (some (b.add (k * 2))) := k0
              clear k0
              refine Par.val_k fun K hK => ?_
              unfold Par.val
              (go_simp; exact hK _ _ ⟨Ext.refl _, rfl⟩)
            refine ⟨⟨fun _ _ => trivial, fun ρ w' hX hG hk => ?_⟩, ?_⟩
            · obtain ⟨k0, -⟩ := hk
              have e0 : ρ (.tmp 25) = Value.pointer (some (b.add (k * 2))) := k0
              clear k0
              refine Par.val_k fun K hK => ?_
              unfold Par.val
              (have c := hX.cell D0.out; go_simp; exact hK _ _ ⟨Ext.refl _, rfl⟩)
            refine ⟨⟨fun _ _ => trivial, fun ρ w' hX hG hk => ?_⟩, ?_⟩
            · obtain ⟨k0, k1, -⟩ := hk
              have e0 : ρ (.tmp 21) = Value.int IntKind.u8 P := k0
              have e1 : ρ (.tmp 26) = Value.int IntKind.u8 Q := k1
              clear k0 k1
              refine Par.val_k fun K hK => ?_
              unfold Par.val
              (go_simp; exact hK _ _ ⟨Ext.refl _, rfl⟩)
            refine ⟨⟨fun _ _ => trivial, fun ρ w' hX hG hk => ?_⟩, ?_⟩
            · obtain ⟨k0, -⟩ := hk
              have e0 : ρ (.tmp 27) = Value.bool false := k0
              clear k0
              refine Par.val_k fun K hK => ?_
              unfold Par.val
              (go_simp; exact hK _ _ ⟨Ext.refl _, rfl⟩)
            refine ⟨⟨fun _ _ u hu => .inl hu, fun ρ w' hX hG hk => ?_⟩, ?_⟩
            · exact Par.val_of_run rfl ⟨Ext.refl _, hk.1⟩
            refine ⟨⟨fun _ _ u hu => .inl hu, fun ρ w' hX hG hk => ?_⟩, ?_⟩
            · exact Par.val_of_run rfl ⟨Ext.refl _, hk.1⟩
            refine ⟨⟨fun _ _ u hu => .inl hu, fun ρ w' hX hG hk => ?_⟩, ?_⟩
            · obtain ⟨k0, k1, -⟩ := hk
              have e0 : ρ (.tmp 29) = Value.slice (some a) p.length cap := k0
              have e1 : ρ (.tmp 30) = Value.int IntKind.i64 (k : Int) := k1
              clear k0 k1
              refine Par.val_k fun K hK => ?_
              unfold Par.val
              (go_simp; exact hK _ _ ⟨Ext.refl _, rfl⟩)
            refine ⟨⟨fun _ _ u hu => .inl hu, fun ρ w' hX hG hk => ?_⟩, ?_⟩
            · obtain ⟨k0, -⟩ := hk
              have e0 : ρ (.tmp 31) = Value.pointer (some (a.add (k * 2))) := k0
              clear k0
              refine Par.val_k fun K hK => ?_
              unfold Par.val
              (go_simp; exact hK _ _ ⟨Ext.refl _, rfl⟩)
            refine ⟨⟨fun _ _ u hu => .inl hu, fun ρ w' hX hG hk => ?_⟩, ?_⟩
            · obtain ⟨k0, -⟩ := hk
              have e0 : ρ (.tmp 32) = Value.pointer (some ⟨(a.add (k * 2)).block, (a.add (k * 2)).off + 1, none⟩) := k0
              clear k0
              refine Par.val_k fun K hK => ?_
              unfold Par.val
              (have c := hX.cell C1.out; go_simp; exact hK _ _ ⟨Ext.refl _, rfl⟩)
            refine ⟨⟨fun _ _ u hu => .inl hu, fun ρ w' hX hG hk => ?_⟩, ?_⟩
            · exact Par.val_of_run rfl ⟨Ext.refl _, hk.1⟩
            refine ⟨⟨fun _ _ u hu => .inl hu, fun ρ w' hX hG hk => ?_⟩, ?_⟩
            · exact Par.val_of_run rfl ⟨Ext.refl _, hk.1⟩
            refine ⟨⟨fun _ _ u hu => .inl hu, fun ρ w' hX hG hk => ?_⟩, ?_⟩
            · obtain ⟨k0, k1, -⟩ := hk
              have e0 : ρ (.tmp 34) = Value.slice (some b) q.length cbp := k0
              have e1 : ρ (.tmp 35) = Value.int IntKind.i64 (k : Int) := k1
              clear k0 k1
              refine Par.val_k fun K hK => ?_
              unfold Par.val
              (go_simp; exact hK _ _ ⟨Ext.refl _, rfl⟩)
            refine ⟨⟨fun _ _ u hu => .inl hu, fun ρ w' hX hG hk => ?_⟩, ?_⟩
            · obtain ⟨k0, -⟩ := hk
              have e0 : ρ (.tmp 36) = Value.pointer (some (b.add (k * 2))) := k0
              clear k0
              refine Par.val_k fun K hK => ?_
              unfold Par.val
              (go_simp; exact hK _ _ ⟨Ext.refl _, rfl⟩)
            refine ⟨⟨fun _ _ u hu => .inl hu, fun ρ w' hX hG hk => ?_⟩, ?_⟩
            · obtain ⟨k0, -⟩ := hk
              have e0 : ρ (.tmp 37) = Value.pointer (some ⟨(b.add (k * 2)).block, (b.add (k * 2)).off + 1, none⟩) := k0
              clear k0
              refine Par.val_k fun K hK => ?_
              unfold Par.val
              (have c := hX.cell D1.out; go_simp; exact hK _ _ ⟨Ext.refl _, rfl⟩)
            refine ⟨⟨fun _ _ u hu => .inl hu, fun ρ w' hX hG hk => ?_⟩, ?_⟩
            · obtain ⟨k0, k1, k2, -⟩ := hk
              have e0 := k0
              have e1 : ρ (.tmp 33) = U := k1
              have e2 : ρ (.tmp 38) = V := k2
              clear k0 k1 k2
              refine Par.val_k fun K hK => ?_
              unfold Par.val
              refine Par.val_call Try.func15 (by kernel_rfl) rfl e0 ?_
              simp only [List.map_toArray, List.map_cons, List.map_nil, e1, e2]
              refine (rsame_any _ _ X Y _ (B1.out.ext hX) (B2.out.ext hX)).mono ?_
              rintro e w2 ⟨rfl, h2⟩
              exact ⟨_, rfl, hK _ _ ⟨h2, (congrArg Value.bool HBB.out)⟩⟩
            refine ⟨⟨fun _ _ u hu => .inl hu, fun ρ w' hX hG hk => ?_⟩, ?_⟩
            · obtain ⟨k0, -⟩ := hk
              have e0 : ρ (.tmp 39) = Value.bool BB := k0
              clear k0
              refine Par.val_k fun K hK => ?_
              unfold Par.val
              (go_simp; exact hK _ _ ⟨Ext.refl _, rfl⟩)
            refine ⟨⟨fun _ _ => trivial, fun ρ w' hX hG hk => ?_⟩, ?_⟩
            · obtain ⟨k0, k1, k2, -⟩ := hk
              have e0 : ρ (.tmp 28) = Value.bool false := k0
              have e1 : ρ (Operand.const (Value.bool true)) = (Value.bool true) := k1
              have e2 : ρ (.tmp 40) = Value.bool (!BB) := k2
              clear k0 k1 k2
              refine Par.val_k fun K hK => ?_
              unfold Par.val
              (go_simp; exact hK _ _ ⟨Ext.refl _, rfl⟩)
            trivial
          intro a' w' inv
          have hX := inv.ext
          have q17 : a'.tmps.getD 17 undef = Value.slice (some a) p.length cap := inv.done 0 _ 17 rfl rfl rfl
          have q18 : a'.tmps.getD 18 undef = Value.int IntKind.i64 (k : Int) := inv.done 1 _ 18 rfl rfl rfl
          have q19 : a'.tmps.getD 19 undef = Value.pointer (some (a.add (k * 2))) := inv.done 2 _ 19 rfl rfl rfl
          have q20 : a'.tmps.getD 20 undef = Value.pointer (some (a.add (k * 2))) := inv.done 3 _ 20 rfl rfl rfl
          have q21 : a'.tmps.getD 21 undef = Value.int IntKind.u8 P := inv.done 4 _ 21 rfl rfl rfl
          have q22 : a'.tmps.getD 22 undef = Value.slice (some b) q.length cbp := inv.done 5 _ 22 rfl rfl rfl
          have q23 : a'.tmps.getD 23 undef = Value.int IntKind.i64 (k : Int) := inv.done 6 _ 23 rfl rfl rfl
          have q24 : a'.tmps.getD 24 undef = Value.pointer (some (b.add (k * 2))) := inv.done 7 _ 24 rfl rfl rfl
          have q25 : a'.tmps.getD 25 undef = Value.pointer (some (b.add (k * 2))) := inv.done 8 _ 25 rfl rfl rfl
          have q26 : a'.tmps.getD 26 undef = Value.int IntKind.u8 Q := inv.done 9 _ 26 rfl rfl rfl
          have q27 : a'.tmps.getD 27 undef = Value.bool false := inv.done 10 _ 27 rfl rfl rfl
          have q28 : a'.tmps.getD 28 undef = Value.bool false := inv.done 11 _ 28 rfl rfl rfl
          have q29 : a'.tmps.getD 29 undef = Value.slice (some a) p.length cap := inv.done 12 _ 29 rfl rfl rfl
          have q30 : a'.tmps.getD 30 undef = Value.int IntKind.i64 (k : Int) := inv.done 13 _ 30 rfl rfl rfl
          have q31 : a'.tmps.getD 31 undef = Value.pointer (some (a.add (k * 2))) := inv.done 14 _ 31 rfl rfl rfl
          have q32 : a'.tmps.getD 32 undef = Value.pointer (some ⟨(a.add (k * 2)).block, (a.add (k * 2)).off + 1, none⟩) := inv.done 15 _ 32 rfl rfl rfl
          have q33 : a'.tmps.getD 33 undef = U := inv.done 16 _ 33 rfl rfl rfl
          have q34 : a'.tmps.getD 34 undef = Value.slice (some b) q.length cbp := inv.done 17 _ 34 rfl rfl rfl
          have q35 : a'.tmps.getD 35 undef = Value.int IntKind.i64 (k : Int) := inv.done 18 _ 35 rfl rfl rfl
          have q36 : a'.tmps.getD 36 undef = Value.pointer (some (b.add (k * 2))) := inv.done 19 _ 36 rfl rfl rfl
          have q37 : a'.tmps.getD 37 undef = Value.pointer (some ⟨(b.add (k * 2)).block, (b.add (k * 2)).off + 1, none⟩) := inv.done 20 _ 37 rfl rfl rfl
          have q38 : a'.tmps.getD 38 undef = V := inv.done 21 _ 38 rfl rfl rfl
          have q39 : a'.tmps.getD 39 undef = Value.bool BB := inv.done 22 _ 39 rfl rfl rfl
          have q40 : a'.tmps.getD 40 undef = Value.bool (!BB) := inv.done 23 _ 40 rfl rfl rfl
          have q41 : a'.tmps.getD 41 undef = Value.bool (!BB) := inv.done 24 _ 41 rfl rfl rfl
          clear inv
          simp only [List.filterMap_cons, List.filterMap_nil, Par.putAll, Act.put, List.setIfInBounds_toArray, List.set_cons_succ, List.set_cons_zero, q17, q18, q19, q20, q21, q22, q23, q24, q25, q26, q27, q28, q29, q30, q31, q32, q33, q34, q35, q36, q37, q38, q39, q40, q41]
          clear q17 q18 q19 q20 q21 q22 q23 q24 q25 q26 q27 q28 q29 q30 q31 q32 q33 q34 q35 q36 q37 q38 q39 q40 q41
          clear a'
          cases BB with
          | true =>
            have hxy : p[k].1 = q[k].1 := HSTEP.out.1 (by simpa using HBB.out)
            have HT2 := hid (show (p.map (·.1)).take (k + 1) = (q.map (·.1)).take (k + 1) by
              rw [List.take_succ_eq_append_getElem (by simpa using hlt), List.take_succ_eq_append_getElem (by simpa using hlt2), HT.out]
              simp [hxy])
            have HE2 := HE.out.trans hX
            clear hxy
            go_wp2
            go_roundw
            case rel => exact ⟨k + 1, by omega, by go_num, HT2, HE2⟩
            case measure => simp [intOf]; omega
          | false =>
            have hfin := samesB_ne (l := p.map (·.1)) (m := q.map (·.1)) (fun e => by
              have h1 : (p.map (·.1))[k]? = (q.map (·.1))[k]? := by rw [e]
              simp [hlt, hlt2] at h1
              have h2 := HSTEP.out.2 h1
              have h3 := HBB.out
              rw [h2] at h3
              simp at h3)
            have HFIN := hid hfin
            clear hfin
            go_wp2
            go_ret
            exact ⟨by rw [HFIN.out]; rfl, HE.out.trans hX⟩
        · have hkn := int_kind_ne hkk
          have hfin := samesB_ne (l := p.map (·.1)) (m := q.map (·.1)) (fun e => hkk (by
            have h1 : (p.map (·.1))[k]? = (q.map (·.1))[k]? := by rw [e]
            simp [hlt, hlt2] at h1
            rw [h1]))
          have HFIN := hid hfin
          clear hfin hkk
          generalize (p[k].1.kind.toNat : Int) = P at *
          generalize (q[k].1.kind.toNat : Int) = Q at *
          go_wp2_with fail
          refine Par.wp_region_par (l := [_, _, _, _, _, _, _, _, _, _, _, _, _, _, _, _, _, _, _, _, _, _, _, _, _]) rfl Ext (Par.VL [Par.EQ (Value.slice (some a) p.length cap), Par.EQ (Value.int IntKind.i64 (k : Int)), Par.EQ (Value.pointer (some (a.add (k * 2)))), Par.EQ (Value.pointer (some (a.add (k * 2)))), Par.EQ (Value.int IntKind.u8 P), Par.EQ (Value.slice (some b) q.length cbp), Par.EQ (Value.int IntKind.i64 (k : Int)), Par.EQ (Value.pointer (some (b.add (k * 2)))), Par.EQ (Value.pointer (some (b.add (k * 2)))), Par.EQ (Value.int IntKind.u8 Q), Par.EQ (Value.bool true), Par.EQ (Value.bool true), Par.EQ (undef), Par.EQ (undef), Par.EQ (undef), Par.EQ (undef), Par.EQ (undef), Par.EQ (undef), Par.EQ (undef), Par.EQ (undef), Par.EQ (undef), Par.EQ (undef), Par.EQ (undef), Par.EQ (undef), Par.EQ (Value.bool true)]) (by kernel_rfl) Ext.refl (fun _ _ _ h1 h2 => Ext.trans h1 h2) (Ext.draw _) (Par.VL_stab ?_) ?_ ?_
          · simp only [List.forall_mem_cons, List.not_mem_nil, false_implies, implies_true, and_true]
            refine ⟨fun _ _ _ _ h => h, fun _ _ _ _ h => h, fun _ _ _ _ h => h, fun _ _ _ _ h => h, fun _ _ _ _ h => h, fun _ _ _ _ h => h, fun _ _ _ _ h => h, fun _ _ _ _ h => h, fun _ _ _ _ h => h, fun _ _ _ _ h => h, fun _ _ _ _ h => h, fun _ _ _ _ h => h, fun _ _ _ _ h => h, fun _ _ _ _ h => h, fun _ _ _ _ h => h, fun _ _ _ _ h => h, fun _ _ _ _ h => h, fun _ _ _ _ h => h, fun _ _ _ _ h => h, fun _ _ _ _ h => h, fun _ _ _ _ h => h, fun _ _ _ _ h => h, fun _ _ _ _ h => h, fun _ _ _ _ h => h, fun _ _ _ _ h => h⟩
          · refine ⟨⟨fun _ _ => trivial, fun ρ w' hX hG hk => ?_⟩, ?_⟩
            · exact Par.val_of_run rfl ⟨Ext.refl _, hk.1⟩
            refine ⟨⟨fun _ _ => trivial, fun ρ w' hX hG hk => ?_⟩, ?_⟩
            · exact Par.val_of_run rfl ⟨Ext.refl _, hk.1⟩
            refine ⟨⟨fun _ _ => trivial, fun ρ w' hX hG hk => ?_⟩, ?_⟩
            · obtain ⟨k0, k1, -⟩ := hk
              have e0 : ρ (.tmp 17) = Value.slice (some a) p.length cap := k0
              have e1 : ρ (.tmp 18) = Value.int IntKind.i64 (k : Int) := k1
              clear k0 k1
              refine Par.val_k fun K hK => ?_
              unfold Par.val
              (go_simp; exact hK _ _ ⟨Ext.refl _, rfl⟩)
            refine ⟨⟨fun _ _ => trivial, fun ρ w' hX hG hk => ?_⟩, ?_⟩
            · obtain ⟨k0, -⟩ := hk
              have e0 : ρ (.tmp 19) = Value.pointer (some (a.add (k * 2))) := k0
              clear k0
              refine Par.val_k fun K hK => ?_
              unfold Par.val
              (go_simp; exact hK _ _ ⟨Ext.refl _, rfl⟩)
            refine ⟨⟨fun _ _ => trivial, fun ρ w' hX hG hk => ?_⟩, ?_⟩
            · obtain ⟨k0, -⟩ := hk
              have e0 : ρ (.tmp 20) = Value.pointer (some (a.add (k * 2))) := k0
              clear k0
              refine Par.val_k fun K hK => ?_
              unfold Par.val
              (have c := hX.cell C0.out; go_simp; exact hK _ _ ⟨Ext.refl _, rfl⟩)
            refine ⟨⟨fun _ _ => trivial, fun ρ w' hX hG hk => ?_⟩, ?_⟩
            · exact Par.val_of_run rfl ⟨Ext.refl _, hk.1⟩
            refine ⟨⟨fun _ _ => trivial, fun ρ w' hX hG hk => ?_⟩, ?_⟩
            · exact Par.val_of_run rfl ⟨Ext.refl _, hk.1⟩
            refine ⟨⟨fun _ _ => trivial, fun ρ w' hX hG hk => ?_⟩, ?_⟩
            · obtain ⟨k0, k1, -⟩ := hk
              have e0 : ρ (.tmp 22) = Value.slice (some b) q.length cbp := k0
              have e1 : ρ (.tmp 23) = Value.int IntKind.i64 (k : Int) := k1
              clear k0 k1
              refine Par.val_k fun K hK => ?_
              unfold Par.val
              (go_simp; exact hK _ _ ⟨Ext.refl _, rfl⟩)
            refine ⟨⟨fun _ _ => trivial, fun ρ w' hX hG hk => ?_⟩, ?_⟩
            · obtain ⟨k0, -⟩ := hk
              have e0 : ρ (.tmp 24) = Value.pointer (some (b.add (k * 2))) := k0
              clear k0
              refine Par.val_k fun K hK => ?_
              unfold Par.val
              (go_simp; exact hK _ _ ⟨Ext.refl _, rfl⟩)
            refine ⟨⟨fun _ _ => trivial, fun ρ w' hX hG hk => ?_⟩, ?_⟩
            · obtain ⟨k0, -⟩ := hk
              have e0 : ρ (.tmp 25) = Value.pointer (some (b.add (k * 2))) := k0
              clear k0
              refine Par.val_k fun K hK => ?_
              unfold Par.val
              (have c := hX.cell D0.out; go_simp; exact hK _ _ ⟨Ext.refl _, rfl⟩)
            refine ⟨⟨fun _ _ => trivial, fun ρ w' hX hG hk => ?_⟩, ?_⟩
            · obtain ⟨k0, k1, -⟩ := hk
              have e0 : ρ (.tmp 21) = Value.int IntKind.u8 P := k0
              have e1 : ρ (.tmp 26) = Value.int IntKind.u8 Q := k1
              clear k0 k1
              refine Par.val_k fun K hK => ?_
              unfold Par.val
              (go_simp; exact hK _ _ ⟨Ext.refl _, rfl⟩)
            refine ⟨⟨fun _ _ => trivial, fun ρ w' hX hG hk => ?_⟩, ?_⟩
            · obtain ⟨k0, -⟩ := hk
              have e0 : ρ (.tmp 27) = Value.bool true := k0
              clear k0
              refine Par.val_k fun K hK => ?_
              unfold Par.val
              (go_simp; exact hK _ _ ⟨Ext.refl _, rfl⟩)
            refine ⟨⟨fun _ _ u hu => .inr rfl, fun ρ w' hX hG hk => ?_⟩, ?_⟩
            · cases hG
            refine ⟨⟨fun _ _ u hu => .inr rfl, fun ρ w' hX hG hk => ?_⟩, ?_⟩
            · cases hG
            refine ⟨⟨fun _ _ u hu => .inr rfl, fun ρ w' hX hG hk => ?_⟩, ?_⟩
            · cases hG
            refine ⟨⟨fun _ _ u hu => .inr rfl, fun ρ w' hX hG hk => ?_⟩, ?_⟩
            · cases hG
            refine ⟨⟨fun _ _ u hu => .inr rfl, fun ρ w' hX hG hk => ?_⟩, ?_⟩
            · cases hG
            refine ⟨⟨fun _ _ u hu => .inr rfl, fun ρ w' hX hG hk => ?_⟩, ?_⟩
            · cases hG
            refine ⟨⟨fun _ _ u hu => .inr rfl, fun ρ w' hX hG hk => ?_⟩, ?_⟩
            · cases hG
            refine ⟨⟨fun _ _ u hu => .inr rfl, fun ρ w' hX hG hk => ?_⟩, ?_⟩
            · cases hG
            refine ⟨⟨fun _ _ u hu => .inr rfl, fun ρ w' hX hG hk => ?_⟩, ?_⟩
            · cases hG
            refine ⟨⟨fun _ _ u hu => .inr rfl, fun ρ w' hX hG hk => ?_⟩, ?_⟩
            · cases hG
            refine ⟨⟨fun _ _ u hu => .inr rfl, fun ρ w' hX hG hk => ?_⟩, ?_⟩
            · cases hG
            refine ⟨⟨fun _ _ u hu => .inr rfl, fun ρ w' hX hG hk => ?_⟩, ?_⟩
            · cases hG
            refine ⟨⟨fun _ _ => trivial, fun ρ w' hX hG hk => ?_⟩, ?_⟩
            · obtain ⟨k0, k1, k2, -⟩ := hk
              have e0 : ρ (.tmp 28) = Value.bool true := k0
              have e1 : ρ (Operand.const (Value.bool true)) = (Value.bool true) := k1
              have e2 : ρ (.tmp 40) = undef := k2
              clear k0 k1 k2
              refine Par.val_k fun K hK => ?_
              unfold Par.val
              (go_simp; exact hK _ _ ⟨Ext.refl _, rfl⟩)
            trivial
          intro a' w' inv
          have hX := inv.ext
          have q17 : a'.tmps.getD 17 undef = Value.slice (some a) p.length cap := inv.done 0 _ 17 rfl rfl rfl
          have q18 : a'.tmps.getD 18 undef = Value.int IntKind.i64 (k : Int) := inv.done 1 _ 18 rfl rfl rfl
          have q19 : a'.tmps.getD 19 undef = Value.pointer (some (a.add (k * 2))) := inv.done 2 _ 19 rfl rfl rfl
          have q20 : a'.tmps.getD 20 undef = Value.pointer (some (a.add (k * 2))) := inv.done 3 _ 20 rfl rfl rfl
          have q21 : a'.tmps.getD 21 undef = Value.int IntKind.u8 P := inv.done 4 _ 21 rfl rfl rfl
          have q22 : a'.tmps.getD 22 undef = Value.slice (some b) q.length cbp := inv.done 5 _ 22 rfl rfl rfl
          have q23 : a'.tmps.getD 23 undef = Value.int IntKind.i64 (k : Int) := inv.done 6 _ 23 rfl rfl rfl
          have q24 : a'.tmps.getD 24 undef = Value.pointer (some (b.add (k * 2))) := inv.done 7 _ 24 rfl rfl rfl
          have q25 : a'.tmps.getD 25 undef = Value.pointer (some (b.add (k * 2))) := inv.done 8 _ 25 rfl rfl rfl
          have q26 : a'.tmps.getD 26 undef = Value.int IntKind.u8 Q := inv.done 9 _ 26 rfl rfl rfl
          have q27 : a'.tmps.getD 27 undef = Value.bool true := inv.done 10 _ 27 rfl rfl rfl
          have q28 : a'.tmps.getD 28 undef = Value.bool true := inv.done 11 _ 28 rfl rfl rfl
          have q29 : a'.tmps.getD 29 undef = undef := inv.done 12 _ 29 rfl rfl rfl
          have q30 : a'.tmps.getD 30 undef = undef := inv.done 13 _ 30 rfl rfl rfl
          have q31 : a'.tmps.getD 31 undef = undef := inv.done 14 _ 31 rfl rfl rfl
          have q32 : a'.tmps.getD 32 undef = undef := inv.done 15 _ 32 rfl rfl rfl
          have q33 : a'.tmps.getD 33 undef = undef := inv.done 16 _ 33 rfl rfl rfl
          have q34 : a'.tmps.getD 34 undef = undef := inv.done 17 _ 34 rfl rfl rfl
          have q35 : a'.tmps.getD 35 undef = undef := inv.done 18 _ 35 rfl rfl rfl
          have q36 : a'.tmps.getD 36 undef = undef := inv.done 19 _ 36 rfl rfl rfl
          have q37 : a'.tmps.getD 37 undef = undef := inv.done 20 _ 37 rfl rfl rfl
          have q38 : a'.tmps.getD 38 undef = undef := inv.done 21 _ 38 rfl rfl rfl
          have q39 : a'.tmps.getD 39 undef = undef := inv.done 22 _ 39 rfl rfl rfl
          have q40 : a'.tmps.getD 40 undef = undef := inv.done 23 _ 40 rfl rfl rfl
          have q41 : a'.tmps.getD 41 undef = Value.bool true := inv.done 24 _ 41 rfl rfl rfl
          clear inv
          simp only [List.filterMap_cons, List.filterMap_nil, Par.putAll, Act.put, List.setIfInBounds_toArray, List.set_cons_succ, List.set_cons_zero, q17, q18, q19, q20, q21, q22, q23, q24, q25, q26, q27, q28, q29, q30, q31, q32, q33, q34, q35, q36, q37, q38, q39, q40, q41]
          clear q17 q18 q19 q20 q21 q22 q23 q24 q25 q26 q27 q28 q29 q30 q31 q32 q33 q34 q35 q36 q37 q38 q39 q40 q41
          clear a'
          go_wp2
          go_ret
          exact ⟨by rw [HFIN.out]; rfl, HE.out.trans hX⟩
      · obtain rfl : k = p.length := by omega
        have hfin := samesB_eq (l := p.map (·.1)) (m := q.map (·.1)) (by
          have h1 := HT.out
          rw [List.take_of_length_le (by simp), List.take_of_length_le (by simp [HLEN.out])] at h1
          exact h1)
        have HFIN := hid hfin
        clear hfin
        go_wp2
        go_ret
        exact ⟨by rw [HFIN.out]; rfl, HE.out⟩
  · have hne : ((p.length : Int) != (q.length : Int)) = true := by simp; omega
    have hfin := samesB_ne (l := p.map (·.1)) (m := q.map (·.1)) (fun e => hlen (by have := congrArg List.length e; simpa using this))
    have HFIN := hid hfin
    clear hfin hlen
    go_enter Try.func16, Try.ntmps16
    go_wp2
    go_ret
    exact ⟨by rw [HFIN.out]; rfl, Ext.refl _⟩
end Go.Proofs.Ytbecahknondmeaa
