/- The document's records: Same; the statement's own. -/
import Derived.Test.YtafdandnbbbdfaaDoorRecG
import Derived.Test.YtafdandnbbbdfaaDoorRecL
namespace Go.Proofs.YtafdandnbbbdfaaDoor
open Go.RowKit Go.Tum Go.Tum.Crc Go.Tum.Vint

def recsSame (l m : List Rc) : Bool := decide (l = m)
theorem recsame_ne {l m : List Rc} (h : l ≠ m) : recsSame l m = false := by simp [recsSame, h]
theorem recsame_eq {l m : List Rc} (h : l = m) : recsSame l m = true := by simp [recsSame, h]
set_option maxRecDepth 100000 in
set_option maxHeartbeats 1000000 in
theorem rsames5_any (u v : Value) (l m : List Rc) (w : World) (hb : Rcs w u l) (hc : Rcs w v m) (hl : l.length ≤ 1048576) (hm : m.length ≤ 1048576) :
    Calls Tryd.prog 16 #[u, v] w fun e w' => e = .returned (.bool (recsSame l m)) ∧ Ext w w' := by
  obtain ⟨p, rfl, hr, hB⟩ := hb
  obtain ⟨q, rfl, hr2, hB2⟩ := hc
  simp only [List.length_map] at hl hm
  obtain ⟨ao, cap, rfl, hc1, hc2, hc3, hcell⟩ := hr.open
  obtain ⟨bo, cbp, rfl, hd1, hd2, hd3, hcell2⟩ := hr2.open
  have HC := hid hcell
  have HD := hid hcell2
  have HB := hid hB
  have HB2 := hid hB2
  have H3 := hid hc3
  have H4 := hid hd3
  clear hcell hcell2 hB hB2 hr hr2 hc3 hd3
  by_cases hlen : p.length = q.length
  · have hne : ((p.length : Int) != (q.length : Int)) = false := by simp [hlen]
    have HLEN := hid hlen
    clear hlen
    go_enter Tryd.func16, Tryd.ntmps16
    go_wp2
    clear hne
    go_loopw [5] (fun i wr => ∃ k : Nat, k ≤ p.length ∧ i = .int .i64 k ∧ Hid ((p.map (·.1)).take k = (q.map (·.1)).take k) ∧ Hid (Ext w wr)) (fun i _ => p.length - (intOf i).toNat)
    case atStart => exact ⟨0, by omega, rfl, hid (by simp), Ext.refl _⟩
    case round =>
      obtain ⟨k, hk, rfl, HT, HE⟩ := hrel
      by_cases hlt : k < p.length
      · have hlt2 : k < q.length := by rw [← HLEN.out]; exact hlt
        obtain ⟨a, rfl⟩ := H3.out (by omega)
        obtain ⟨b, rfl⟩ := H4.out (by omega)
        have C0 := hid (cell_first (HE.out.cell (HC.out a rfl k hlt 0 _ rfl)))
        have C1 := hid (cell_next (HE.out.cell (HC.out a rfl k hlt 1 _ rfl)) (by decide))
        have C2 := hid (cell_next (HE.out.cell (HC.out a rfl k hlt 2 _ rfl)) (by decide))
        have D0 := hid (cell_first (HE.out.cell (HD.out b rfl k hlt2 0 _ rfl)))
        have D1 := hid (cell_next (HE.out.cell (HD.out b rfl k hlt2 1 _ rfl)) (by decide))
        have D2 := hid (cell_next (HE.out.cell (HD.out b rfl k hlt2 2 _ rfl)) (by decide))
        have B1 := hid ((HB.out p[k] (List.getElem_mem hlt)).ext HE.out)
        have B2 := hid ((HB2.out q[k] (List.getElem_mem hlt2)).ext HE.out)
        have hI : (k : Int) < p.length := by omega
        have hI2 : (k : Int) < q.length := by omega
        have hI0 : (0 : Int) ≤ k := by omega
        obtain ⟨P, hP⟩ : ∃ P, p[k].1.kind = P := ⟨_, rfl⟩
        obtain ⟨Q, hQ⟩ : ∃ Q, q[k].1.kind = Q := ⟨_, rfl⟩
        obtain ⟨S1, hS1⟩ : ∃ S1, p[k].1.text = S1 := ⟨_, rfl⟩
        obtain ⟨S2, hS2⟩ : ∃ S2, q[k].1.text = S2 := ⟨_, rfl⟩
        obtain ⟨X, hX0⟩ : ∃ X, p[k].1.n = X := ⟨_, rfl⟩
        obtain ⟨Y, hY0⟩ : ∃ Y, q[k].1.n = Y := ⟨_, rfl⟩
        obtain ⟨U, hU0⟩ : ∃ U, p[k].2 = U := ⟨_, rfl⟩
        obtain ⟨V, hV0⟩ : ∃ V, q[k].2 = V := ⟨_, rfl⟩
        rw [hP] at C0
        rw [hS1] at C2
        rw [hU0] at C1
        rw [hQ] at D0
        rw [hS2] at D2
        rw [hV0] at D1
        rw [hX0, hU0] at B1
        rw [hY0, hV0] at B2
        have hone : ∃ x n y, U = .slice x n y := by
          obtain ⟨x, y, h, -⟩ := B1.out.open
          exact ⟨x, _, y, h⟩
        have hone2 : ∃ x n y, V = .slice x n y := by
          obtain ⟨x, y, h, -⟩ := B2.out.open
          exact ⟨x, _, y, h⟩
        have HPQ := hid (And.intro hP hQ)
        have HSS := hid (And.intro hS1 hS2)
        have HXY := hid (And.intro hX0 hY0)
        clear hX0 hY0 hU0 hV0 hP hQ hS1 hS2
        by_cases hkk : P = Q
        · have hkn : (P != Q) = false := by simp [hkk]
          by_cases hss : S1 = S2
          · obtain ⟨BB, hBB⟩ : ∃ BB, (X == Y) = BB := ⟨_, rfl⟩
            have HSTEP := hid (show (X = Y) ↔ p[k].1 = q[k].1 by
              have h1 := HPQ.out; have h2 := HSS.out; have h3 := HXY.out
              rw [← h3.1, ← h3.2]
              constructor
              · intro h
                cases hp : p[k].1; cases hq : q[k].1
                rw [hp, hq] at h1 h2 h3 h
                simp only at h1 h2 h3 h
                rw [Rc.mk.injEq]
                exact ⟨by rw [h1.1, h1.2, hkk], h, by rw [h2.1, h2.2, hss]⟩
              · intro h; rw [h])
            have HBB := hid hBB
            subst hss
            clear hkk hBB
            go_wp2_with fail
            refine Par.wp_region_par (l := [_, _, _, _, _, _, _, _, _, _, _, _, _, _, _, _, _, _, _, _, _, _, _, _, _, _, _, _, _, _, _, _, _, _, _, _, _, _]) rfl Ext (Par.VL [Par.EQ (Value.slice (some a) p.length cap), Par.EQ (Value.int IntKind.i64 (k : Int)), Par.EQ (Value.pointer (some (a.add (k * 3)))), Par.EQ (Value.pointer (some (a.add (k * 3)))), Par.EQ (Value.int IntKind.i64 P), Par.EQ (Value.slice (some b) q.length cbp), Par.EQ (Value.int IntKind.i64 (k : Int)), Par.EQ (Value.pointer (some (b.add (k * 3)))), Par.EQ (Value.pointer (some (b.add (k * 3)))), Par.EQ (Value.int IntKind.i64 Q), Par.EQ (Value.bool false), Par.EQ (Value.bool false), Par.EQ (Value.slice (some a) p.length cap), Par.EQ (Value.int IntKind.i64 (k : Int)), Par.EQ (Value.pointer (some (a.add (k * 3)))), Par.EQ (Value.pointer (some ⟨(a.add (k * 3)).block, (a.add (k * 3)).off + 2, none⟩)), Par.EQ (Value.string (str S1)), Par.EQ (Value.slice (some b) q.length cbp), Par.EQ (Value.int IntKind.i64 (k : Int)), Par.EQ (Value.pointer (some (b.add (k * 3)))), Par.EQ (Value.pointer (some ⟨(b.add (k * 3)).block, (b.add (k * 3)).off + 2, none⟩)), Par.EQ (Value.string (str S1)), Par.EQ (Value.bool false), Par.EQ (Value.bool false), Par.EQ (Value.bool false), Par.EQ (Value.slice (some a) p.length cap), Par.EQ (Value.int IntKind.i64 (k : Int)), Par.EQ (Value.pointer (some (a.add (k * 3)))), Par.EQ (Value.pointer (some ⟨(a.add (k * 3)).block, (a.add (k * 3)).off + 1, none⟩)), Par.EQ (U), Par.EQ (Value.slice (some b) q.length cbp), Par.EQ (Value.int IntKind.i64 (k : Int)), Par.EQ (Value.pointer (some (b.add (k * 3)))), Par.EQ (Value.pointer (some ⟨(b.add (k * 3)).block, (b.add (k * 3)).off + 1, none⟩)), Par.EQ (V), Par.EQ (Value.bool BB), Par.EQ (Value.bool (!BB)), Par.EQ (Value.bool (!BB))]) (by kernel_rfl) Ext.refl (fun _ _ _ h1 h2 => Ext.trans h1 h2) (Ext.draw _) (Par.VL_stab ?_) ?_ ?_
            · simp only [List.forall_mem_cons, List.not_mem_nil, false_implies, implies_true, and_true]
              refine ⟨fun _ _ _ _ h => h, fun _ _ _ _ h => h, fun _ _ _ _ h => h, fun _ _ _ _ h => h, fun _ _ _ _ h => h, fun _ _ _ _ h => h, fun _ _ _ _ h => h, fun _ _ _ _ h => h, fun _ _ _ _ h => h, fun _ _ _ _ h => h, fun _ _ _ _ h => h, fun _ _ _ _ h => h, fun _ _ _ _ h => h, fun _ _ _ _ h => h, fun _ _ _ _ h => h, fun _ _ _ _ h => h, fun _ _ _ _ h => h, fun _ _ _ _ h => h, fun _ _ _ _ h => h, fun _ _ _ _ h => h, fun _ _ _ _ h => h, fun _ _ _ _ h => h, fun _ _ _ _ h => h, fun _ _ _ _ h => h, fun _ _ _ _ h => h, fun _ _ _ _ h => h, fun _ _ _ _ h => h, fun _ _ _ _ h => h, fun _ _ _ _ h => h, fun _ _ _ _ h => h, fun _ _ _ _ h => h, fun _ _ _ _ h => h, fun _ _ _ _ h => h, fun _ _ _ _ h => h, fun _ _ _ _ h => h, fun _ _ _ _ h => h, fun _ _ _ _ h => h, fun _ _ _ _ h => h⟩
            · refine ⟨⟨fun _ _ => trivial, fun ρ w' hX hG hk => ?_⟩, ?_⟩
              · exact Par.val_of_run rfl ⟨Ext.refl _, hk.1⟩
              refine ⟨⟨fun _ _ => trivial, fun ρ w' hX hG hk => ?_⟩, ?_⟩
              · exact Par.val_of_run rfl ⟨Ext.refl _, hk.1⟩
              refine ⟨⟨fun _ _ => trivial, fun ρ w' hX hG hk => ?_⟩, ?_⟩
              · obtain ⟨k0, k1, -⟩ := hk
                have e0 : ρ (.tmp 17) = Value.slice (some a) p.length cap := k0
                have e1 : ρ (.tmp 18) = Value.int IntKind.i64 (k : Int) := k1
                clear k0 k1
                refine Par.val_k fun K hK => ?_
                unfold Par.val
                (go_simp; exact hK _ _ ⟨Ext.refl _, rfl⟩)
              refine ⟨⟨fun _ _ => trivial, fun ρ w' hX hG hk => ?_⟩, ?_⟩
              · obtain ⟨k0, -⟩ := hk
                have e0 : ρ (.tmp 19) = Value.pointer (some (a.add (k * 3))) := k0
                clear k0
                refine Par.val_k fun K hK => ?_
                unfold Par.val
                (go_simp; exact hK _ _ ⟨Ext.refl _, rfl⟩)
              refine ⟨⟨fun _ _ => trivial, fun ρ w' hX hG hk => ?_⟩, ?_⟩
              · obtain ⟨k0, -⟩ := hk
                have e0 : ρ (.tmp 20) = Value.pointer (some (a.add (k * 3))) := k0
                clear k0
                refine Par.val_k fun K hK => ?_
                unfold Par.val
                (have c := hX.cell C0.out; go_simp; exact hK _ _ ⟨Ext.refl _, rfl⟩)
              refine ⟨⟨fun _ _ => trivial, fun ρ w' hX hG hk => ?_⟩, ?_⟩
              · exact Par.val_of_run rfl ⟨Ext.refl _, hk.1⟩
              refine ⟨⟨fun _ _ => trivial, fun ρ w' hX hG hk => ?_⟩, ?_⟩
              · exact Par.val_of_run rfl ⟨Ext.refl _, hk.1⟩
              refine ⟨⟨fun _ _ => trivial, fun ρ w' hX hG hk => ?_⟩, ?_⟩
              · obtain ⟨k0, k1, -⟩ := hk
                have e0 : ρ (.tmp 22) = Value.slice (some b) q.length cbp := k0
                have e1 : ρ (.tmp 23) = Value.int IntKind.i64 (k : Int) := k1
                clear k0 k1
                refine Par.val_k fun K hK => ?_
                unfold Par.val
                (go_simp; exact hK _ _ ⟨Ext.refl _, rfl⟩)
              refine ⟨⟨fun _ _ => trivial, fun ρ w' hX hG hk => ?_⟩, ?_⟩
              · obtain ⟨k0, -⟩ := hk
                have e0 : ρ (.tmp 24) = Value.pointer (some (b.add (k * 3))) := k0
                clear k0
                refine Par.val_k fun K hK => ?_
                unfold Par.val
                (go_simp; exact hK _ _ ⟨Ext.refl _, rfl⟩)
              refine ⟨⟨fun _ _ => trivial, fun ρ w' hX hG hk => ?_⟩, ?_⟩
              · obtain ⟨k0, -⟩ := hk
                have e0 : ρ (.tmp 25) = Value.pointer (some (b.add (k * 3))) := k0
                clear k0
                refine Par.val_k fun K hK => ?_
                unfold Par.val
                (have c := hX.cell D0.out; go_simp; exact hK _ _ ⟨Ext.refl _, rfl⟩)
              refine ⟨⟨fun _ _ => trivial, fun ρ w' hX hG hk => ?_⟩, ?_⟩
              · obtain ⟨k0, k1, -⟩ := hk
                have e0 : ρ (.tmp 21) = Value.int IntKind.i64 P := k0
                have e1 : ρ (.tmp 26) = Value.int IntKind.i64 Q := k1
                clear k0 k1
                refine Par.val_k fun K hK => ?_
                unfold Par.val
                (go_simp; exact hK _ _ ⟨Ext.refl _, rfl⟩)
              refine ⟨⟨fun _ _ => trivial, fun ρ w' hX hG hk => ?_⟩, ?_⟩
              · obtain ⟨k0, -⟩ := hk
                have e0 : ρ (.tmp 27) = Value.bool false := k0
                clear k0
                refine Par.val_k fun K hK => ?_
                unfold Par.val
                (go_simp; exact hK _ _ ⟨Ext.refl _, rfl⟩)
              refine ⟨⟨fun _ _ u hu => .inl hu, fun ρ w' hX hG hk => ?_⟩, ?_⟩
              · exact Par.val_of_run rfl ⟨Ext.refl _, hk.1⟩
              refine ⟨⟨fun _ _ u hu => .inl hu, fun ρ w' hX hG hk => ?_⟩, ?_⟩
              · exact Par.val_of_run rfl ⟨Ext.refl _, hk.1⟩
              refine ⟨⟨fun _ _ u hu => .inl hu, fun ρ w' hX hG hk => ?_⟩, ?_⟩
              · obtain ⟨k0, k1, -⟩ := hk
                have e0 : ρ (.tmp 29) = Value.slice (some a) p.length cap := k0
                have e1 : ρ (.tmp 30) = Value.int IntKind.i64 (k : Int) := k1
                clear k0 k1
                refine Par.val_k fun K hK => ?_
                unfold Par.val
                (go_simp; exact hK _ _ ⟨Ext.refl _, rfl⟩)
              refine ⟨⟨fun _ _ u hu => .inl hu, fun ρ w' hX hG hk => ?_⟩, ?_⟩
              · obtain ⟨k0, -⟩ := hk
                have e0 : ρ (.tmp 31) = Value.pointer (some (a.add (k * 3))) := k0
                clear k0
                refine Par.val_k fun K hK => ?_
                unfold Par.val
                (go_simp; exact hK _ _ ⟨Ext.refl _, rfl⟩)
              refine ⟨⟨fun _ _ u hu => .inl hu, fun ρ w' hX hG hk => ?_⟩, ?_⟩
              · obtain ⟨k0, -⟩ := hk
                have e0 : ρ (.tmp 32) = Value.pointer (some ⟨(a.add (k * 3)).block, (a.add (k * 3)).off + 2, none⟩) := k0
                clear k0
                refine Par.val_k fun K hK => ?_
                unfold Par.val
                (have c := hX.cell C2.out; go_simp; exact hK _ _ ⟨Ext.refl _, rfl⟩)
              refine ⟨⟨fun _ _ u hu => .inl hu, fun ρ w' hX hG hk => ?_⟩, ?_⟩
              · exact Par.val_of_run rfl ⟨Ext.refl _, hk.1⟩
              refine ⟨⟨fun _ _ u hu => .inl hu, fun ρ w' hX hG hk => ?_⟩, ?_⟩
              · exact Par.val_of_run rfl ⟨Ext.refl _, hk.1⟩
              refine ⟨⟨fun _ _ u hu => .inl hu, fun ρ w' hX hG hk => ?_⟩, ?_⟩
              · obtain ⟨k0, k1, -⟩ := hk
                have e0 : ρ (.tmp 34) = Value.slice (some b) q.length cbp := k0
                have e1 : ρ (.tmp 35) = Value.int IntKind.i64 (k : Int) := k1
                clear k0 k1
                refine Par.val_k fun K hK => ?_
                unfold Par.val
                (go_simp; exact hK _ _ ⟨Ext.refl _, rfl⟩)
              refine ⟨⟨fun _ _ u hu => .inl hu, fun ρ w' hX hG hk => ?_⟩, ?_⟩
              · obtain ⟨k0, -⟩ := hk
                have e0 : ρ (.tmp 36) = Value.pointer (some (b.add (k * 3))) := k0
                clear k0
                refine Par.val_k fun K hK => ?_
                unfold Par.val
                (go_simp; exact hK _ _ ⟨Ext.refl _, rfl⟩)
              refine ⟨⟨fun _ _ u hu => .inl hu, fun ρ w' hX hG hk => ?_⟩, ?_⟩
              · obtain ⟨k0, -⟩ := hk
                have e0 : ρ (.tmp 37) = Value.pointer (some ⟨(b.add (k * 3)).block, (b.add (k * 3)).off + 2, none⟩) := k0
                clear k0
                refine Par.val_k fun K hK => ?_
                unfold Par.val
                (have c := hX.cell D2.out; go_simp; exact hK _ _ ⟨Ext.refl _, rfl⟩)
              refine ⟨⟨fun _ _ u hu => .inl hu, fun ρ w' hX hG hk => ?_⟩, ?_⟩
              · obtain ⟨k0, k1, -⟩ := hk
                have e0 : ρ (.tmp 33) = Value.string (str S1) := k0
                have e1 : ρ (.tmp 38) = Value.string (str S1) := k1
                clear k0 k1
                refine Par.val_k fun K hK => ?_
                unfold Par.val
                (go_simp; exact hK _ _ ⟨Ext.refl _, rfl⟩)
              refine ⟨⟨fun _ _ => trivial, fun ρ w' hX hG hk => ?_⟩, ?_⟩
              · obtain ⟨k0, k1, k2, -⟩ := hk
                have e0 : ρ (.tmp 28) = Value.bool false := k0
                have e1 : ρ (Operand.const (Value.bool true)) = (Value.bool true) := k1
                have e2 : ρ (.tmp 39) = Value.bool false := k2
                clear k0 k1 k2
                refine Par.val_k fun K hK => ?_
                unfold Par.val
                (go_simp; exact hK _ _ ⟨Ext.refl _, rfl⟩)
              refine ⟨⟨fun _ _ => trivial, fun ρ w' hX hG hk => ?_⟩, ?_⟩
              · obtain ⟨k0, -⟩ := hk
                have e0 : ρ (.tmp 40) = Value.bool false := k0
                clear k0
                refine Par.val_k fun K hK => ?_
                unfold Par.val
                (go_simp; exact hK _ _ ⟨Ext.refl _, rfl⟩)
              refine ⟨⟨fun _ _ u hu => .inl hu, fun ρ w' hX hG hk => ?_⟩, ?_⟩
              · exact Par.val_of_run rfl ⟨Ext.refl _, hk.1⟩
              refine ⟨⟨fun _ _ u hu => .inl hu, fun ρ w' hX hG hk => ?_⟩, ?_⟩
              · exact Par.val_of_run rfl ⟨Ext.refl _, hk.1⟩
              refine ⟨⟨fun _ _ u hu => .inl hu, fun ρ w' hX hG hk => ?_⟩, ?_⟩
              · obtain ⟨k0, k1, -⟩ := hk
                have e0 : ρ (.tmp 42) = Value.slice (some a) p.length cap := k0
                have e1 : ρ (.tmp 43) = Value.int IntKind.i64 (k : Int) := k1
                clear k0 k1
                refine Par.val_k fun K hK => ?_
                unfold Par.val
                (go_simp; exact hK _ _ ⟨Ext.refl _, rfl⟩)
              refine ⟨⟨fun _ _ u hu => .inl hu, fun ρ w' hX hG hk => ?_⟩, ?_⟩
              · obtain ⟨k0, -⟩ := hk
                have e0 : ρ (.tmp 44) = Value.pointer (some (a.add (k * 3))) := k0
                clear k0
                refine Par.val_k fun K hK => ?_
                unfold Par.val
                (go_simp; exact hK _ _ ⟨Ext.refl _, rfl⟩)
              refine ⟨⟨fun _ _ u hu => .inl hu, fun ρ w' hX hG hk => ?_⟩, ?_⟩
              · obtain ⟨k0, -⟩ := hk
                have e0 : ρ (.tmp 45) = Value.pointer (some ⟨(a.add (k * 3)).block, (a.add (k * 3)).off + 1, none⟩) := k0
                clear k0
                refine Par.val_k fun K hK => ?_
                unfold Par.val
                (have c := hX.cell C1.out; go_simp; exact hK _ _ ⟨Ext.refl _, rfl⟩)
              refine ⟨⟨fun _ _ u hu => .inl hu, fun ρ w' hX hG hk => ?_⟩, ?_⟩
              · exact Par.val_of_run rfl ⟨Ext.refl _, hk.1⟩
              refine ⟨⟨fun _ _ u hu => .inl hu, fun ρ w' hX hG hk => ?_⟩, ?_⟩
              · exact Par.val_of_run rfl ⟨Ext.refl _, hk.1⟩
              refine ⟨⟨fun _ _ u hu => .inl hu, fun ρ w' hX hG hk => ?_⟩, ?_⟩
              · obtain ⟨k0, k1, -⟩ := hk
                have e0 : ρ (.tmp 47) = Value.slice (some b) q.length cbp := k0
                have e1 : ρ (.tmp 48) = Value.int IntKind.i64 (k : Int) := k1
                clear k0 k1
                refine Par.val_k fun K hK => ?_
                unfold Par.val
                (go_simp; exact hK _ _ ⟨Ext.refl _, rfl⟩)
              refine ⟨⟨fun _ _ u hu => .inl hu, fun ρ w' hX hG hk => ?_⟩, ?_⟩
              · obtain ⟨k0, -⟩ := hk
                have e0 : ρ (.tmp 49) = Value.pointer (some (b.add (k * 3))) := k0
                clear k0
                refine Par.val_k fun K hK => ?_
                unfold Par.val
                (go_simp; exact hK _ _ ⟨Ext.refl _, rfl⟩)
              refine ⟨⟨fun _ _ u hu => .inl hu, fun ρ w' hX hG hk => ?_⟩, ?_⟩
              · obtain ⟨k0, -⟩ := hk
                have e0 : ρ (.tmp 50) = Value.pointer (some ⟨(b.add (k * 3)).block, (b.add (k * 3)).off + 1, none⟩) := k0
                clear k0
                refine Par.val_k fun K hK => ?_
                unfold Par.val
                (have c := hX.cell D1.out; go_simp; exact hK _ _ ⟨Ext.refl _, rfl⟩)
              refine ⟨⟨fun _ _ u hu => .inl hu, fun ρ w' hX hG hk => ?_⟩, ?_⟩
              · obtain ⟨k0, k1, k2, -⟩ := hk
                have e0 := k0
                have e1 : ρ (.tmp 46) = U := k1
                have e2 : ρ (.tmp 51) = V := k2
                clear k0 k1 k2
                refine Par.val_k fun K hK => ?_
                unfold Par.val
                refine Par.val_call Tryd.func34 (by kernel_rfl) rfl e0 ?_
                simp only [List.map_toArray, List.map_cons, List.map_nil, e1, e2]
                refine (rsame64_any _ _ X Y _ (B1.out.ext hX) (B2.out.ext hX)).mono ?_
                rintro e w2 ⟨rfl, h2⟩
                exact ⟨_, rfl, hK _ _ ⟨h2, (congrArg Value.bool HBB.out)⟩⟩
              refine ⟨⟨fun _ _ u hu => .inl hu, fun ρ w' hX hG hk => ?_⟩, ?_⟩
              · obtain ⟨k0, -⟩ := hk
                have e0 : ρ (.tmp 52) = Value.bool BB := k0
                clear k0
                refine Par.val_k fun K hK => ?_
                unfold Par.val
                (go_simp; exact hK _ _ ⟨Ext.refl _, rfl⟩)
              refine ⟨⟨fun _ _ => trivial, fun ρ w' hX hG hk => ?_⟩, ?_⟩
              · obtain ⟨k0, k1, k2, -⟩ := hk
                have e0 : ρ (.tmp 41) = Value.bool false := k0
                have e1 : ρ (Operand.const (Value.bool true)) = (Value.bool true) := k1
                have e2 : ρ (.tmp 53) = Value.bool (!BB) := k2
                clear k0 k1 k2
                refine Par.val_k fun K hK => ?_
                unfold Par.val
                (go_simp; exact hK _ _ ⟨Ext.refl _, rfl⟩)
              trivial
            intro a' w' inv
            have hX := inv.ext
            have q17 : a'.tmps.getD 17 undef = Value.slice (some a) p.length cap := inv.done 0 _ 17 rfl rfl rfl
            have q18 : a'.tmps.getD 18 undef = Value.int IntKind.i64 (k : Int) := inv.done 1 _ 18 rfl rfl rfl
            have q19 : a'.tmps.getD 19 undef = Value.pointer (some (a.add (k * 3))) := inv.done 2 _ 19 rfl rfl rfl
            have q20 : a'.tmps.getD 20 undef = Value.pointer (some (a.add (k * 3))) := inv.done 3 _ 20 rfl rfl rfl
            have q21 : a'.tmps.getD 21 undef = Value.int IntKind.i64 P := inv.done 4 _ 21 rfl rfl rfl
            have q22 : a'.tmps.getD 22 undef = Value.slice (some b) q.length cbp := inv.done 5 _ 22 rfl rfl rfl
            have q23 : a'.tmps.getD 23 undef = Value.int IntKind.i64 (k : Int) := inv.done 6 _ 23 rfl rfl rfl
            have q24 : a'.tmps.getD 24 undef = Value.pointer (some (b.add (k * 3))) := inv.done 7 _ 24 rfl rfl rfl
            have q25 : a'.tmps.getD 25 undef = Value.pointer (some (b.add (k * 3))) := inv.done 8 _ 25 rfl rfl rfl
            have q26 : a'.tmps.getD 26 undef = Value.int IntKind.i64 Q := inv.done 9 _ 26 rfl rfl rfl
            have q27 : a'.tmps.getD 27 undef = Value.bool false := inv.done 10 _ 27 rfl rfl rfl
            have q28 : a'.tmps.getD 28 undef = Value.bool false := inv.done 11 _ 28 rfl rfl rfl
            have q29 : a'.tmps.getD 29 undef = Value.slice (some a) p.length cap := inv.done 12 _ 29 rfl rfl rfl
            have q30 : a'.tmps.getD 30 undef = Value.int IntKind.i64 (k : Int) := inv.done 13 _ 30 rfl rfl rfl
            have q31 : a'.tmps.getD 31 undef = Value.pointer (some (a.add (k * 3))) := inv.done 14 _ 31 rfl rfl rfl
            have q32 : a'.tmps.getD 32 undef = Value.pointer (some ⟨(a.add (k * 3)).block, (a.add (k * 3)).off + 2, none⟩) := inv.done 15 _ 32 rfl rfl rfl
            have q33 : a'.tmps.getD 33 undef = Value.string (str S1) := inv.done 16 _ 33 rfl rfl rfl
            have q34 : a'.tmps.getD 34 undef = Value.slice (some b) q.length cbp := inv.done 17 _ 34 rfl rfl rfl
            have q35 : a'.tmps.getD 35 undef = Value.int IntKind.i64 (k : Int) := inv.done 18 _ 35 rfl rfl rfl
            have q36 : a'.tmps.getD 36 undef = Value.pointer (some (b.add (k * 3))) := inv.done 19 _ 36 rfl rfl rfl
            have q37 : a'.tmps.getD 37 undef = Value.pointer (some ⟨(b.add (k * 3)).block, (b.add (k * 3)).off + 2, none⟩) := inv.done 20 _ 37 rfl rfl rfl
            have q38 : a'.tmps.getD 38 undef = Value.string (str S1) := inv.done 21 _ 38 rfl rfl rfl
            have q39 : a'.tmps.getD 39 undef = Value.bool false := inv.done 22 _ 39 rfl rfl rfl
            have q40 : a'.tmps.getD 40 undef = Value.bool false := inv.done 23 _ 40 rfl rfl rfl
            have q41 : a'.tmps.getD 41 undef = Value.bool false := inv.done 24 _ 41 rfl rfl rfl
            have q42 : a'.tmps.getD 42 undef = Value.slice (some a) p.length cap := inv.done 25 _ 42 rfl rfl rfl
            have q43 : a'.tmps.getD 43 undef = Value.int IntKind.i64 (k : Int) := inv.done 26 _ 43 rfl rfl rfl
            have q44 : a'.tmps.getD 44 undef = Value.pointer (some (a.add (k * 3))) := inv.done 27 _ 44 rfl rfl rfl
            have q45 : a'.tmps.getD 45 undef = Value.pointer (some ⟨(a.add (k * 3)).block, (a.add (k * 3)).off + 1, none⟩) := inv.done 28 _ 45 rfl rfl rfl
            have q46 : a'.tmps.getD 46 undef = U := inv.done 29 _ 46 rfl rfl rfl
            have q47 : a'.tmps.getD 47 undef = Value.slice (some b) q.length cbp := inv.done 30 _ 47 rfl rfl rfl
            have q48 : a'.tmps.getD 48 undef = Value.int IntKind.i64 (k : Int) := inv.done 31 _ 48 rfl rfl rfl
            have q49 : a'.tmps.getD 49 undef = Value.pointer (some (b.add (k * 3))) := inv.done 32 _ 49 rfl rfl rfl
            have q50 : a'.tmps.getD 50 undef = Value.pointer (some ⟨(b.add (k * 3)).block, (b.add (k * 3)).off + 1, none⟩) := inv.done 33 _ 50 rfl rfl rfl
            have q51 : a'.tmps.getD 51 undef = V := inv.done 34 _ 51 rfl rfl rfl
            have q52 : a'.tmps.getD 52 undef = Value.bool BB := inv.done 35 _ 52 rfl rfl rfl
            have q53 : a'.tmps.getD 53 undef = Value.bool (!BB) := inv.done 36 _ 53 rfl rfl rfl
            have q54 : a'.tmps.getD 54 undef = Value.bool (!BB) := inv.done 37 _ 54 rfl rfl rfl
            clear inv
            simp only [List.filterMap_cons, List.filterMap_nil, Par.putAll, Act.put, List.setIfInBounds_toArray, List.set_cons_succ, List.set_cons_zero, q17, q18, q19, q20, q21, q22, q23, q24, q25, q26, q27, q28, q29, q30, q31, q32, q33, q34, q35, q36, q37, q38, q39, q40, q41, q42, q43, q44, q45, q46, q47, q48, q49, q50, q51, q52, q53, q54]
            clear q17 q18 q19 q20 q21 q22 q23 q24 q25 q26 q27 q28 q29 q30 q31 q32 q33 q34 q35 q36 q37 q38 q39 q40 q41 q42 q43 q44 q45 q46 q47 q48 q49 q50 q51 q52 q53 q54
            clear a'
            cases BB with
            | true =>
              have hxy : p[k].1 = q[k].1 := HSTEP.out.1 (by simpa using HBB.out)
              have HT2 := hid (show (p.map (·.1)).take (k + 1) = (q.map (·.1)).take (k + 1) by
                rw [List.take_succ_eq_append_getElem (by simpa using hlt), List.take_succ_eq_append_getElem (by simpa using hlt2), HT.out]
                simp [hxy])
              have HE2 := HE.out.trans hX
              clear hxy
              go_wp2
              go_roundw
              case rel => exact ⟨k + 1, by omega, by go_num, HT2, HE2⟩
              case measure => simp [intOf]; omega
            | false =>
              have HFIN := hid (recsame_ne (l := p.map (·.1)) (m := q.map (·.1)) (fun e => by
                have h1 : (p.map (·.1))[k]? = (q.map (·.1))[k]? := by rw [e]
                simp [hlt, hlt2] at h1
                have h2 := HSTEP.out.2 h1
                have h3 := HBB.out
                rw [h2] at h3
                simp at h3))
              go_wp2
              go_ret
              exact ⟨by rw [HFIN.out]; rfl, HE.out.trans hX⟩
          · have ht : (S1 == S2) = false := by simp [hss]
            have HFIN := hid (recsame_ne (l := p.map (·.1)) (m := q.map (·.1)) (fun e => hss (by
              have h1 : (p.map (·.1))[k]? = (q.map (·.1))[k]? := by rw [e]
              simp [hlt, hlt2] at h1
              rw [← HSS.out.1, ← HSS.out.2, h1])))
            clear hss hkk
            go_wp2_with fail
            refine Par.wp_region_par (l := [_, _, _, _, _, _, _, _, _, _, _, _, _, _, _, _, _, _, _, _, _, _, _, _, _, _, _, _, _, _, _, _, _, _, _, _, _, _]) rfl Ext (Par.VL [Par.EQ (Value.slice (some a) p.length cap), Par.EQ (Value.int IntKind.i64 (k : Int)), Par.EQ (Value.pointer (some (a.add (k * 3)))), Par.EQ (Value.pointer (some (a.add (k * 3)))), Par.EQ (Value.int IntKind.i64 P), Par.EQ (Value.slice (some b) q.length cbp), Par.EQ (Value.int IntKind.i64 (k : Int)), Par.EQ (Value.pointer (some (b.add (k * 3)))), Par.EQ (Value.pointer (some (b.add (k * 3)))), Par.EQ (Value.int IntKind.i64 Q), Par.EQ (Value.bool false), Par.EQ (Value.bool false), Par.EQ (Value.slice (some a) p.length cap), Par.EQ (Value.int IntKind.i64 (k : Int)), Par.EQ (Value.pointer (some (a.add (k * 3)))), Par.EQ (Value.pointer (some ⟨(a.add (k * 3)).block, (a.add (k * 3)).off + 2, none⟩)), Par.EQ (Value.string (str S1)), Par.EQ (Value.slice (some b) q.length cbp), Par.EQ (Value.int IntKind.i64 (k : Int)), Par.EQ (Value.pointer (some (b.add (k * 3)))), Par.EQ (Value.pointer (some ⟨(b.add (k * 3)).block, (b.add (k * 3)).off + 2, none⟩)), Par.EQ (Value.string (str S2)), Par.EQ (Value.bool true), Par.EQ (Value.bool true), Par.EQ (Value.bool true), Par.EQ (undef), Par.EQ (undef), Par.EQ (undef), Par.EQ (undef), Par.EQ (undef), Par.EQ (undef), Par.EQ (undef), Par.EQ (undef), Par.EQ (undef), Par.EQ (undef), Par.EQ (undef), Par.EQ (undef), Par.EQ (Value.bool true)]) (by kernel_rfl) Ext.refl (fun _ _ _ h1 h2 => Ext.trans h1 h2) (Ext.draw _) (Par.VL_stab ?_) ?_ ?_
            · simp only [List.forall_mem_cons, List.not_mem_nil, false_implies, implies_true, and_true]
              refine ⟨fun _ _ _ _ h => h, fun _ _ _ _ h => h, fun _ _ _ _ h => h, fun _ _ _ _ h => h, fun _ _ _ _ h => h, fun _ _ _ _ h => h, fun _ _ _ _ h => h, fun _ _ _ _ h => h, fun _ _ _ _ h => h, fun _ _ _ _ h => h, fun _ _ _ _ h => h, fun _ _ _ _ h => h, fun _ _ _ _ h => h, fun _ _ _ _ h => h, fun _ _ _ _ h => h, fun _ _ _ _ h => h, fun _ _ _ _ h => h, fun _ _ _ _ h => h, fun _ _ _ _ h => h, fun _ _ _ _ h => h, fun _ _ _ _ h => h, fun _ _ _ _ h => h, fun _ _ _ _ h => h, fun _ _ _ _ h => h, fun _ _ _ _ h => h, fun _ _ _ _ h => h, fun _ _ _ _ h => h, fun _ _ _ _ h => h, fun _ _ _ _ h => h, fun _ _ _ _ h => h, fun _ _ _ _ h => h, fun _ _ _ _ h => h, fun _ _ _ _ h => h, fun _ _ _ _ h => h, fun _ _ _ _ h => h, fun _ _ _ _ h => h, fun _ _ _ _ h => h, fun _ _ _ _ h => h⟩
            · refine ⟨⟨fun _ _ => trivial, fun ρ w' hX hG hk => ?_⟩, ?_⟩
              · exact Par.val_of_run rfl ⟨Ext.refl _, hk.1⟩
              refine ⟨⟨fun _ _ => trivial, fun ρ w' hX hG hk => ?_⟩, ?_⟩
              · exact Par.val_of_run rfl ⟨Ext.refl _, hk.1⟩
              refine ⟨⟨fun _ _ => trivial, fun ρ w' hX hG hk => ?_⟩, ?_⟩
              · obtain ⟨k0, k1, -⟩ := hk
                have e0 : ρ (.tmp 17) = Value.slice (some a) p.length cap := k0
                have e1 : ρ (.tmp 18) = Value.int IntKind.i64 (k : Int) := k1
                clear k0 k1
                refine Par.val_k fun K hK => ?_
                unfold Par.val
                (go_simp; exact hK _ _ ⟨Ext.refl _, rfl⟩)
              refine ⟨⟨fun _ _ => trivial, fun ρ w' hX hG hk => ?_⟩, ?_⟩
              · obtain ⟨k0, -⟩ := hk
                have e0 : ρ (.tmp 19) = Value.pointer (some (a.add (k * 3))) := k0
                clear k0
                refine Par.val_k fun K hK => ?_
                unfold Par.val
                (go_simp; exact hK _ _ ⟨Ext.refl _, rfl⟩)
              refine ⟨⟨fun _ _ => trivial, fun ρ w' hX hG hk => ?_⟩, ?_⟩
              · obtain ⟨k0, -⟩ := hk
                have e0 : ρ (.tmp 20) = Value.pointer (some (a.add (k * 3))) := k0
                clear k0
                refine Par.val_k fun K hK => ?_
                unfold Par.val
                (have c := hX.cell C0.out; go_simp; exact hK _ _ ⟨Ext.refl _, rfl⟩)
              refine ⟨⟨fun _ _ => trivial, fun ρ w' hX hG hk => ?_⟩, ?_⟩
              · exact Par.val_of_run rfl ⟨Ext.refl _, hk.1⟩
              refine ⟨⟨fun _ _ => trivial, fun ρ w' hX hG hk => ?_⟩, ?_⟩
              · exact Par.val_of_run rfl ⟨Ext.refl _, hk.1⟩
              refine ⟨⟨fun _ _ => trivial, fun ρ w' hX hG hk => ?_⟩, ?_⟩
              · obtain ⟨k0, k1, -⟩ := hk
                have e0 : ρ (.tmp 22) = Value.slice (some b) q.length cbp := k0
                have e1 : ρ (.tmp 23) = Value.int IntKind.i64 (k : Int) := k1
                clear k0 k1
                refine Par.val_k fun K hK => ?_
                unfold Par.val
                (go_simp; exact hK _ _ ⟨Ext.refl _, rfl⟩)
              refine ⟨⟨fun _ _ => trivial, fun ρ w' hX hG hk => ?_⟩, ?_⟩
              · obtain ⟨k0, -⟩ := hk
                have e0 : ρ (.tmp 24) = Value.pointer (some (b.add (k * 3))) := k0
                clear k0
                refine Par.val_k fun K hK => ?_
                unfold Par.val
                (go_simp; exact hK _ _ ⟨Ext.refl _, rfl⟩)
              refine ⟨⟨fun _ _ => trivial, fun ρ w' hX hG hk => ?_⟩, ?_⟩
              · obtain ⟨k0, -⟩ := hk
                have e0 : ρ (.tmp 25) = Value.pointer (some (b.add (k * 3))) := k0
                clear k0
                refine Par.val_k fun K hK => ?_
                unfold Par.val
                (have c := hX.cell D0.out; go_simp; exact hK _ _ ⟨Ext.refl _, rfl⟩)
              refine ⟨⟨fun _ _ => trivial, fun ρ w' hX hG hk => ?_⟩, ?_⟩
              · obtain ⟨k0, k1, -⟩ := hk
                have e0 : ρ (.tmp 21) = Value.int IntKind.i64 P := k0
                have e1 : ρ (.tmp 26) = Value.int IntKind.i64 Q := k1
                clear k0 k1
                refine Par.val_k fun K hK => ?_
                unfold Par.val
                (go_simp; exact hK _ _ ⟨Ext.refl _, rfl⟩)
              refine ⟨⟨fun _ _ => trivial, fun ρ w' hX hG hk => ?_⟩, ?_⟩
              · obtain ⟨k0, -⟩ := hk
                have e0 : ρ (.tmp 27) = Value.bool false := k0
                clear k0
                refine Par.val_k fun K hK => ?_
                unfold Par.val
                (go_simp; exact hK _ _ ⟨Ext.refl _, rfl⟩)
              refine ⟨⟨fun _ _ u hu => .inl hu, fun ρ w' hX hG hk => ?_⟩, ?_⟩
              · exact Par.val_of_run rfl ⟨Ext.refl _, hk.1⟩
              refine ⟨⟨fun _ _ u hu => .inl hu, fun ρ w' hX hG hk => ?_⟩, ?_⟩
              · exact Par.val_of_run rfl ⟨Ext.refl _, hk.1⟩
              refine ⟨⟨fun _ _ u hu => .inl hu, fun ρ w' hX hG hk => ?_⟩, ?_⟩
              · obtain ⟨k0, k1, -⟩ := hk
                have e0 : ρ (.tmp 29) = Value.slice (some a) p.length cap := k0
                have e1 : ρ (.tmp 30) = Value.int IntKind.i64 (k : Int) := k1
                clear k0 k1
                refine Par.val_k fun K hK => ?_
                unfold Par.val
                (go_simp; exact hK _ _ ⟨Ext.refl _, rfl⟩)
              refine ⟨⟨fun _ _ u hu => .inl hu, fun ρ w' hX hG hk => ?_⟩, ?_⟩
              · obtain ⟨k0, -⟩ := hk
                have e0 : ρ (.tmp 31) = Value.pointer (some (a.add (k * 3))) := k0
                clear k0
                refine Par.val_k fun K hK => ?_
                unfold Par.val
                (go_simp; exact hK _ _ ⟨Ext.refl _, rfl⟩)
              refine ⟨⟨fun _ _ u hu => .inl hu, fun ρ w' hX hG hk => ?_⟩, ?_⟩
              · obtain ⟨k0, -⟩ := hk
                have e0 : ρ (.tmp 32) = Value.pointer (some ⟨(a.add (k * 3)).block, (a.add (k * 3)).off + 2, none⟩) := k0
                clear k0
                refine Par.val_k fun K hK => ?_
                unfold Par.val
                (have c := hX.cell C2.out; go_simp; exact hK _ _ ⟨Ext.refl _, rfl⟩)
              refine ⟨⟨fun _ _ u hu => .inl hu, fun ρ w' hX hG hk => ?_⟩, ?_⟩
              · exact Par.val_of_run rfl ⟨Ext.refl _, hk.1⟩
              refine ⟨⟨fun _ _ u hu => .inl hu, fun ρ w' hX hG hk => ?_⟩, ?_⟩
              · exact Par.val_of_run rfl ⟨Ext.refl _, hk.1⟩
              refine ⟨⟨fun _ _ u hu => .inl hu, fun ρ w' hX hG hk => ?_⟩, ?_⟩
              · obtain ⟨k0, k1, -⟩ := hk
                have e0 : ρ (.tmp 34) = Value.slice (some b) q.length cbp := k0
                have e1 : ρ (.tmp 35) = Value.int IntKind.i64 (k : Int) := k1
                clear k0 k1
                refine Par.val_k fun K hK => ?_
                unfold Par.val
                (go_simp; exact hK _ _ ⟨Ext.refl _, rfl⟩)
              refine ⟨⟨fun _ _ u hu => .inl hu, fun ρ w' hX hG hk => ?_⟩, ?_⟩
              · obtain ⟨k0, -⟩ := hk
                have e0 : ρ (.tmp 36) = Value.pointer (some (b.add (k * 3))) := k0
                clear k0
                refine Par.val_k fun K hK => ?_
                unfold Par.val
                (go_simp; exact hK _ _ ⟨Ext.refl _, rfl⟩)
              refine ⟨⟨fun _ _ u hu => .inl hu, fun ρ w' hX hG hk => ?_⟩, ?_⟩
              · obtain ⟨k0, -⟩ := hk
                have e0 : ρ (.tmp 37) = Value.pointer (some ⟨(b.add (k * 3)).block, (b.add (k * 3)).off + 2, none⟩) := k0
                clear k0
                refine Par.val_k fun K hK => ?_
                unfold Par.val
                (have c := hX.cell D2.out; go_simp; exact hK _ _ ⟨Ext.refl _, rfl⟩)
              refine ⟨⟨fun _ _ u hu => .inl hu, fun ρ w' hX hG hk => ?_⟩, ?_⟩
              · obtain ⟨k0, k1, -⟩ := hk
                have e0 : ρ (.tmp 33) = Value.string (str S1) := k0
                have e1 : ρ (.tmp 38) = Value.string (str S2) := k1
                clear k0 k1
                refine Par.val_k fun K hK => ?_
                unfold Par.val
                (go_simp; exact hK _ _ ⟨Ext.refl _, rfl⟩)
              refine ⟨⟨fun _ _ => trivial, fun ρ w' hX hG hk => ?_⟩, ?_⟩
              · obtain ⟨k0, k1, k2, -⟩ := hk
                have e0 : ρ (.tmp 28) = Value.bool false := k0
                have e1 : ρ (Operand.const (Value.bool true)) = (Value.bool true) := k1
                have e2 : ρ (.tmp 39) = Value.bool true := k2
                clear k0 k1 k2
                refine Par.val_k fun K hK => ?_
                unfold Par.val
                (go_simp; exact hK _ _ ⟨Ext.refl _, rfl⟩)
              refine ⟨⟨fun _ _ => trivial, fun ρ w' hX hG hk => ?_⟩, ?_⟩
              · obtain ⟨k0, -⟩ := hk
                have e0 : ρ (.tmp 40) = Value.bool true := k0
                clear k0
                refine Par.val_k fun K hK => ?_
                unfold Par.val
                (go_simp; exact hK _ _ ⟨Ext.refl _, rfl⟩)
              refine ⟨⟨fun _ _ u hu => .inr rfl, fun ρ w' hX hG hk => ?_⟩, ?_⟩
              · cases hG
              refine ⟨⟨fun _ _ u hu => .inr rfl, fun ρ w' hX hG hk => ?_⟩, ?_⟩
              · cases hG
              refine ⟨⟨fun _ _ u hu => .inr rfl, fun ρ w' hX hG hk => ?_⟩, ?_⟩
              · cases hG
              refine ⟨⟨fun _ _ u hu => .inr rfl, fun ρ w' hX hG hk => ?_⟩, ?_⟩
              · cases hG
              refine ⟨⟨fun _ _ u hu => .inr rfl, fun ρ w' hX hG hk => ?_⟩, ?_⟩
              · cases hG
              refine ⟨⟨fun _ _ u hu => .inr rfl, fun ρ w' hX hG hk => ?_⟩, ?_⟩
              · cases hG
              refine ⟨⟨fun _ _ u hu => .inr rfl, fun ρ w' hX hG hk => ?_⟩, ?_⟩
              · cases hG
              refine ⟨⟨fun _ _ u hu => .inr rfl, fun ρ w' hX hG hk => ?_⟩, ?_⟩
              · cases hG
              refine ⟨⟨fun _ _ u hu => .inr rfl, fun ρ w' hX hG hk => ?_⟩, ?_⟩
              · cases hG
              refine ⟨⟨fun _ _ u hu => .inr rfl, fun ρ w' hX hG hk => ?_⟩, ?_⟩
              · cases hG
              refine ⟨⟨fun _ _ u hu => .inr rfl, fun ρ w' hX hG hk => ?_⟩, ?_⟩
              · cases hG
              refine ⟨⟨fun _ _ u hu => .inr rfl, fun ρ w' hX hG hk => ?_⟩, ?_⟩
              · cases hG
              refine ⟨⟨fun _ _ => trivial, fun ρ w' hX hG hk => ?_⟩, ?_⟩
              · obtain ⟨k0, k1, k2, -⟩ := hk
                have e0 : ρ (.tmp 41) = Value.bool true := k0
                have e1 : ρ (Operand.const (Value.bool true)) = (Value.bool true) := k1
                have e2 : ρ (.tmp 53) = undef := k2
                clear k0 k1 k2
                refine Par.val_k fun K hK => ?_
                unfold Par.val
                (go_simp; exact hK _ _ ⟨Ext.refl _, rfl⟩)
              trivial
            intro a' w' inv
            have hX := inv.ext
            have q17 : a'.tmps.getD 17 undef = Value.slice (some a) p.length cap := inv.done 0 _ 17 rfl rfl rfl
            have q18 : a'.tmps.getD 18 undef = Value.int IntKind.i64 (k : Int) := inv.done 1 _ 18 rfl rfl rfl
            have q19 : a'.tmps.getD 19 undef = Value.pointer (some (a.add (k * 3))) := inv.done 2 _ 19 rfl rfl rfl
            have q20 : a'.tmps.getD 20 undef = Value.pointer (some (a.add (k * 3))) := inv.done 3 _ 20 rfl rfl rfl
            have q21 : a'.tmps.getD 21 undef = Value.int IntKind.i64 P := inv.done 4 _ 21 rfl rfl rfl
            have q22 : a'.tmps.getD 22 undef = Value.slice (some b) q.length cbp := inv.done 5 _ 22 rfl rfl rfl
            have q23 : a'.tmps.getD 23 undef = Value.int IntKind.i64 (k : Int) := inv.done 6 _ 23 rfl rfl rfl
            have q24 : a'.tmps.getD 24 undef = Value.pointer (some (b.add (k * 3))) := inv.done 7 _ 24 rfl rfl rfl
            have q25 : a'.tmps.getD 25 undef = Value.pointer (some (b.add (k * 3))) := inv.done 8 _ 25 rfl rfl rfl
            have q26 : a'.tmps.getD 26 undef = Value.int IntKind.i64 Q := inv.done 9 _ 26 rfl rfl rfl
            have q27 : a'.tmps.getD 27 undef = Value.bool false := inv.done 10 _ 27 rfl rfl rfl
            have q28 : a'.tmps.getD 28 undef = Value.bool false := inv.done 11 _ 28 rfl rfl rfl
            have q29 : a'.tmps.getD 29 undef = Value.slice (some a) p.length cap := inv.done 12 _ 29 rfl rfl rfl
            have q30 : a'.tmps.getD 30 undef = Value.int IntKind.i64 (k : Int) := inv.done 13 _ 30 rfl rfl rfl
            have q31 : a'.tmps.getD 31 undef = Value.pointer (some (a.add (k * 3))) := inv.done 14 _ 31 rfl rfl rfl
            have q32 : a'.tmps.getD 32 undef = Value.pointer (some ⟨(a.add (k * 3)).block, (a.add (k * 3)).off + 2, none⟩) := inv.done 15 _ 32 rfl rfl rfl
            have q33 : a'.tmps.getD 33 undef = Value.string (str S1) := inv.done 16 _ 33 rfl rfl rfl
            have q34 : a'.tmps.getD 34 undef = Value.slice (some b) q.length cbp := inv.done 17 _ 34 rfl rfl rfl
            have q35 : a'.tmps.getD 35 undef = Value.int IntKind.i64 (k : Int) := inv.done 18 _ 35 rfl rfl rfl
            have q36 : a'.tmps.getD 36 undef = Value.pointer (some (b.add (k * 3))) := inv.done 19 _ 36 rfl rfl rfl
            have q37 : a'.tmps.getD 37 undef = Value.pointer (some ⟨(b.add (k * 3)).block, (b.add (k * 3)).off + 2, none⟩) := inv.done 20 _ 37 rfl rfl rfl
            have q38 : a'.tmps.getD 38 undef = Value.string (str S2) := inv.done 21 _ 38 rfl rfl rfl
            have q39 : a'.tmps.getD 39 undef = Value.bool true := inv.done 22 _ 39 rfl rfl rfl
            have q40 : a'.tmps.getD 40 undef = Value.bool true := inv.done 23 _ 40 rfl rfl rfl
            have q41 : a'.tmps.getD 41 undef = Value.bool true := inv.done 24 _ 41 rfl rfl rfl
            have q42 : a'.tmps.getD 42 undef = undef := inv.done 25 _ 42 rfl rfl rfl
            have q43 : a'.tmps.getD 43 undef = undef := inv.done 26 _ 43 rfl rfl rfl
            have q44 : a'.tmps.getD 44 undef = undef := inv.done 27 _ 44 rfl rfl rfl
            have q45 : a'.tmps.getD 45 undef = undef := inv.done 28 _ 45 rfl rfl rfl
            have q46 : a'.tmps.getD 46 undef = undef := inv.done 29 _ 46 rfl rfl rfl
            have q47 : a'.tmps.getD 47 undef = undef := inv.done 30 _ 47 rfl rfl rfl
            have q48 : a'.tmps.getD 48 undef = undef := inv.done 31 _ 48 rfl rfl rfl
            have q49 : a'.tmps.getD 49 undef = undef := inv.done 32 _ 49 rfl rfl rfl
            have q50 : a'.tmps.getD 50 undef = undef := inv.done 33 _ 50 rfl rfl rfl
            have q51 : a'.tmps.getD 51 undef = undef := inv.done 34 _ 51 rfl rfl rfl
            have q52 : a'.tmps.getD 52 undef = undef := inv.done 35 _ 52 rfl rfl rfl
            have q53 : a'.tmps.getD 53 undef = undef := inv.done 36 _ 53 rfl rfl rfl
            have q54 : a'.tmps.getD 54 undef = Value.bool true := inv.done 37 _ 54 rfl rfl rfl
            clear inv
            simp only [List.filterMap_cons, List.filterMap_nil, Par.putAll, Act.put, List.setIfInBounds_toArray, List.set_cons_succ, List.set_cons_zero, q17, q18, q19, q20, q21, q22, q23, q24, q25, q26, q27, q28, q29, q30, q31, q32, q33, q34, q35, q36, q37, q38, q39, q40, q41, q42, q43, q44, q45, q46, q47, q48, q49, q50, q51, q52, q53, q54]
            clear q17 q18 q19 q20 q21 q22 q23 q24 q25 q26 q27 q28 q29 q30 q31 q32 q33 q34 q35 q36 q37 q38 q39 q40 q41 q42 q43 q44 q45 q46 q47 q48 q49 q50 q51 q52 q53 q54
            clear a'
            go_wp2
            go_ret
            exact ⟨by rw [HFIN.out]; rfl, HE.out.trans hX⟩
        · have hkn : (P != Q) = true := by simp [hkk]
          have HFIN := hid (recsame_ne (l := p.map (·.1)) (m := q.map (·.1)) (fun e => hkk (by
            have h1 : (p.map (·.1))[k]? = (q.map (·.1))[k]? := by rw [e]
            simp [hlt, hlt2] at h1
            rw [← HPQ.out.1, ← HPQ.out.2, h1])))
          clear hkk
          go_wp2_with fail
          refine Par.wp_region_par (l := [_, _, _, _, _, _, _, _, _, _, _, _, _, _, _, _, _, _, _, _, _, _, _, _, _, _, _, _, _, _, _, _, _, _, _, _, _, _]) rfl Ext (Par.VL [Par.EQ (Value.slice (some a) p.length cap), Par.EQ (Value.int IntKind.i64 (k : Int)), Par.EQ (Value.pointer (some (a.add (k * 3)))), Par.EQ (Value.pointer (some (a.add (k * 3)))), Par.EQ (Value.int IntKind.i64 P), Par.EQ (Value.slice (some b) q.length cbp), Par.EQ (Value.int IntKind.i64 (k : Int)), Par.EQ (Value.pointer (some (b.add (k * 3)))), Par.EQ (Value.pointer (some (b.add (k * 3)))), Par.EQ (Value.int IntKind.i64 Q), Par.EQ (Value.bool true), Par.EQ (Value.bool true), Par.EQ (undef), Par.EQ (undef), Par.EQ (undef), Par.EQ (undef), Par.EQ (undef), Par.EQ (undef), Par.EQ (undef), Par.EQ (undef), Par.EQ (undef), Par.EQ (undef), Par.EQ (undef), Par.EQ (Value.bool true), Par.EQ (Value.bool true), Par.EQ (undef), Par.EQ (undef), Par.EQ (undef), Par.EQ (undef), Par.EQ (undef), Par.EQ (undef), Par.EQ (undef), Par.EQ (undef), Par.EQ (undef), Par.EQ (undef), Par.EQ (undef), Par.EQ (undef), Par.EQ (Value.bool true)]) (by kernel_rfl) Ext.refl (fun _ _ _ h1 h2 => Ext.trans h1 h2) (Ext.draw _) (Par.VL_stab ?_) ?_ ?_
          · simp only [List.forall_mem_cons, List.not_mem_nil, false_implies, implies_true, and_true]
            refine ⟨fun _ _ _ _ h => h, fun _ _ _ _ h => h, fun _ _ _ _ h => h, fun _ _ _ _ h => h, fun _ _ _ _ h => h, fun _ _ _ _ h => h, fun _ _ _ _ h => h, fun _ _ _ _ h => h, fun _ _ _ _ h => h, fun _ _ _ _ h => h, fun _ _ _ _ h => h, fun _ _ _ _ h => h, fun _ _ _ _ h => h, fun _ _ _ _ h => h, fun _ _ _ _ h => h, fun _ _ _ _ h => h, fun _ _ _ _ h => h, fun _ _ _ _ h => h, fun _ _ _ _ h => h, fun _ _ _ _ h => h, fun _ _ _ _ h => h, fun _ _ _ _ h => h, fun _ _ _ _ h => h, fun _ _ _ _ h => h, fun _ _ _ _ h => h, fun _ _ _ _ h => h, fun _ _ _ _ h => h, fun _ _ _ _ h => h, fun _ _ _ _ h => h, fun _ _ _ _ h => h, fun _ _ _ _ h => h, fun _ _ _ _ h => h, fun _ _ _ _ h => h, fun _ _ _ _ h => h, fun _ _ _ _ h => h, fun _ _ _ _ h => h, fun _ _ _ _ h => h, fun _ _ _ _ h => h⟩
          · refine ⟨⟨fun _ _ => trivial, fun ρ w' hX hG hk => ?_⟩, ?_⟩
            · exact Par.val_of_run rfl ⟨Ext.refl _, hk.1⟩
            refine ⟨⟨fun _ _ => trivial, fun ρ w' hX hG hk => ?_⟩, ?_⟩
            · exact Par.val_of_run rfl ⟨Ext.refl _, hk.1⟩
            refine ⟨⟨fun _ _ => trivial, fun ρ w' hX hG hk => ?_⟩, ?_⟩
            · obtain ⟨k0, k1, -⟩ := hk
              have e0 : ρ (.tmp 17) = Value.slice (some a) p.length cap := k0
              have e1 : ρ (.tmp 18) = Value.int IntKind.i64 (k : Int) := k1
              clear k0 k1
              refine Par.val_k fun K hK => ?_
              unfold Par.val
              (go_simp; exact hK _ _ ⟨Ext.refl _, rfl⟩)
            refine ⟨⟨fun _ _ => trivial, fun ρ w' hX hG hk => ?_⟩, ?_⟩
            · obtain ⟨k0, -⟩ := hk
              have e0 : ρ (.tmp 19) = Value.pointer (some (a.add (k * 3))) := k0
              clear k0
              refine Par.val_k fun K hK => ?_
              unfold Par.val
              (go_simp; exact hK _ _ ⟨Ext.refl _, rfl⟩)
            refine ⟨⟨fun _ _ => trivial, fun ρ w' hX hG hk => ?_⟩, ?_⟩
            · obtain ⟨k0, -⟩ := hk
              have e0 : ρ (.tmp 20) = Value.pointer (some (a.add (k * 3))) := k0
              clear k0
              refine Par.val_k fun K hK => ?_
              unfold Par.val
              (have c := hX.cell C0.out; go_simp; exact hK _ _ ⟨Ext.refl _, rfl⟩)
            refine ⟨⟨fun _ _ => trivial, fun ρ w' hX hG hk => ?_⟩, ?_⟩
            · exact Par.val_of_run rfl ⟨Ext.refl _, hk.1⟩
            refine ⟨⟨fun _ _ => trivial, fun ρ w' hX hG hk => ?_⟩, ?_⟩
            · exact Par.val_of_run rfl ⟨Ext.refl _, hk.1⟩
            refine ⟨⟨fun _ _ => trivial, fun ρ w' hX hG hk => ?_⟩, ?_⟩
            · obtain ⟨k0, k1, -⟩ := hk
              have e0 : ρ (.tmp 22) = Value.slice (some b) q.length cbp := k0
              have e1 : ρ (.tmp 23) = Value.int IntKind.i64 (k : Int) := k1
              clear k0 k1
              refine Par.val_k fun K hK => ?_
              unfold Par.val
              (go_simp; exact hK _ _ ⟨Ext.refl _, rfl⟩)
            refine ⟨⟨fun _ _ => trivial, fun ρ w' hX hG hk => ?_⟩, ?_⟩
            · obtain ⟨k0, -⟩ := hk
              have e0 : ρ (.tmp 24) = Value.pointer (some (b.add (k * 3))) := k0
              clear k0
              refine Par.val_k fun K hK => ?_
              unfold Par.val
              (go_simp; exact hK _ _ ⟨Ext.refl _, rfl⟩)
            refine ⟨⟨fun _ _ => trivial, fun ρ w' hX hG hk => ?_⟩, ?_⟩
            · obtain ⟨k0, -⟩ := hk
              have e0 : ρ (.tmp 25) = Value.pointer (some (b.add (k * 3))) := k0
              clear k0
              refine Par.val_k fun K hK => ?_
              unfold Par.val
              (have c := hX.cell D0.out; go_simp; exact hK _ _ ⟨Ext.refl _, rfl⟩)
            refine ⟨⟨fun _ _ => trivial, fun ρ w' hX hG hk => ?_⟩, ?_⟩
            · obtain ⟨k0, k1, -⟩ := hk
              have e0 : ρ (.tmp 21) = Value.int IntKind.i64 P := k0
              have e1 : ρ (.tmp 26) = Value.int IntKind.i64 Q := k1
              clear k0 k1
              refine Par.val_k fun K hK => ?_
              unfold Par.val
              (go_simp; exact hK _ _ ⟨Ext.refl _, rfl⟩)
            refine ⟨⟨fun _ _ => trivial, fun ρ w' hX hG hk => ?_⟩, ?_⟩
            · obtain ⟨k0, -⟩ := hk
              have e0 : ρ (.tmp 27) = Value.bool true := k0
              clear k0
              refine Par.val_k fun K hK => ?_
              unfold Par.val
              (go_simp; exact hK _ _ ⟨Ext.refl _, rfl⟩)
            refine ⟨⟨fun _ _ u hu => .inr rfl, fun ρ w' hX hG hk => ?_⟩, ?_⟩
            · cases hG
            refine ⟨⟨fun _ _ u hu => .inr rfl, fun ρ w' hX hG hk => ?_⟩, ?_⟩
            · cases hG
            refine ⟨⟨fun _ _ u hu => .inr rfl, fun ρ w' hX hG hk => ?_⟩, ?_⟩
            · cases hG
            refine ⟨⟨fun _ _ u hu => .inr rfl, fun ρ w' hX hG hk => ?_⟩, ?_⟩
            · cases hG
            refine ⟨⟨fun _ _ u hu => .inr rfl, fun ρ w' hX hG hk => ?_⟩, ?_⟩
            · cases hG
            refine ⟨⟨fun _ _ u hu => .inr rfl, fun ρ w' hX hG hk => ?_⟩, ?_⟩
            · cases hG
            refine ⟨⟨fun _ _ u hu => .inr rfl, fun ρ w' hX hG hk => ?_⟩, ?_⟩
            · cases hG
            refine ⟨⟨fun _ _ u hu => .inr rfl, fun ρ w' hX hG hk => ?_⟩, ?_⟩
            · cases hG
            refine ⟨⟨fun _ _ u hu => .inr rfl, fun ρ w' hX hG hk => ?_⟩, ?_⟩
            · cases hG
            refine ⟨⟨fun _ _ u hu => .inr rfl, fun ρ w' hX hG hk => ?_⟩, ?_⟩
            · cases hG
            refine ⟨⟨fun _ _ u hu => .inr rfl, fun ρ w' hX hG hk => ?_⟩, ?_⟩
            · cases hG
            refine ⟨⟨fun _ _ => trivial, fun ρ w' hX hG hk => ?_⟩, ?_⟩
            · obtain ⟨k0, k1, k2, -⟩ := hk
              have e0 : ρ (.tmp 28) = Value.bool true := k0
              have e1 : ρ (Operand.const (Value.bool true)) = (Value.bool true) := k1
              have e2 : ρ (.tmp 39) = undef := k2
              clear k0 k1 k2
              refine Par.val_k fun K hK => ?_
              unfold Par.val
              (go_simp; exact hK _ _ ⟨Ext.refl _, rfl⟩)
            refine ⟨⟨fun _ _ => trivial, fun ρ w' hX hG hk => ?_⟩, ?_⟩
            · obtain ⟨k0, -⟩ := hk
              have e0 : ρ (.tmp 40) = Value.bool true := k0
              clear k0
              refine Par.val_k fun K hK => ?_
              unfold Par.val
              (go_simp; exact hK _ _ ⟨Ext.refl _, rfl⟩)
            refine ⟨⟨fun _ _ u hu => .inr rfl, fun ρ w' hX hG hk => ?_⟩, ?_⟩
            · cases hG
            refine ⟨⟨fun _ _ u hu => .inr rfl, fun ρ w' hX hG hk => ?_⟩, ?_⟩
            · cases hG
            refine ⟨⟨fun _ _ u hu => .inr rfl, fun ρ w' hX hG hk => ?_⟩, ?_⟩
            · cases hG
            refine ⟨⟨fun _ _ u hu => .inr rfl, fun ρ w' hX hG hk => ?_⟩, ?_⟩
            · cases hG
            refine ⟨⟨fun _ _ u hu => .inr rfl, fun ρ w' hX hG hk => ?_⟩, ?_⟩
            · cases hG
            refine ⟨⟨fun _ _ u hu => .inr rfl, fun ρ w' hX hG hk => ?_⟩, ?_⟩
            · cases hG
            refine ⟨⟨fun _ _ u hu => .inr rfl, fun ρ w' hX hG hk => ?_⟩, ?_⟩
            · cases hG
            refine ⟨⟨fun _ _ u hu => .inr rfl, fun ρ w' hX hG hk => ?_⟩, ?_⟩
            · cases hG
            refine ⟨⟨fun _ _ u hu => .inr rfl, fun ρ w' hX hG hk => ?_⟩, ?_⟩
            · cases hG
            refine ⟨⟨fun _ _ u hu => .inr rfl, fun ρ w' hX hG hk => ?_⟩, ?_⟩
            · cases hG
            refine ⟨⟨fun _ _ u hu => .inr rfl, fun ρ w' hX hG hk => ?_⟩, ?_⟩
            · cases hG
            refine ⟨⟨fun _ _ u hu => .inr rfl, fun ρ w' hX hG hk => ?_⟩, ?_⟩
            · cases hG
            refine ⟨⟨fun _ _ => trivial, fun ρ w' hX hG hk => ?_⟩, ?_⟩
            · obtain ⟨k0, k1, k2, -⟩ := hk
              have e0 : ρ (.tmp 41) = Value.bool true := k0
              have e1 : ρ (Operand.const (Value.bool true)) = (Value.bool true) := k1
              have e2 : ρ (.tmp 53) = undef := k2
              clear k0 k1 k2
              refine Par.val_k fun K hK => ?_
              unfold Par.val
              (go_simp; exact hK _ _ ⟨Ext.refl _, rfl⟩)
            trivial
          intro a' w' inv
          have hX := inv.ext
          have q17 : a'.tmps.getD 17 undef = Value.slice (some a) p.length cap := inv.done 0 _ 17 rfl rfl rfl
          have q18 : a'.tmps.getD 18 undef = Value.int IntKind.i64 (k : Int) := inv.done 1 _ 18 rfl rfl rfl
          have q19 : a'.tmps.getD 19 undef = Value.pointer (some (a.add (k * 3))) := inv.done 2 _ 19 rfl rfl rfl
          have q20 : a'.tmps.getD 20 undef = Value.pointer (some (a.add (k * 3))) := inv.done 3 _ 20 rfl rfl rfl
          have q21 : a'.tmps.getD 21 undef = Value.int IntKind.i64 P := inv.done 4 _ 21 rfl rfl rfl
          have q22 : a'.tmps.getD 22 undef = Value.slice (some b) q.length cbp := inv.done 5 _ 22 rfl rfl rfl
          have q23 : a'.tmps.getD 23 undef = Value.int IntKind.i64 (k : Int) := inv.done 6 _ 23 rfl rfl rfl
          have q24 : a'.tmps.getD 24 undef = Value.pointer (some (b.add (k * 3))) := inv.done 7 _ 24 rfl rfl rfl
          have q25 : a'.tmps.getD 25 undef = Value.pointer (some (b.add (k * 3))) := inv.done 8 _ 25 rfl rfl rfl
          have q26 : a'.tmps.getD 26 undef = Value.int IntKind.i64 Q := inv.done 9 _ 26 rfl rfl rfl
          have q27 : a'.tmps.getD 27 undef = Value.bool true := inv.done 10 _ 27 rfl rfl rfl
          have q28 : a'.tmps.getD 28 undef = Value.bool true := inv.done 11 _ 28 rfl rfl rfl
          have q29 : a'.tmps.getD 29 undef = undef := inv.done 12 _ 29 rfl rfl rfl
          have q30 : a'.tmps.getD 30 undef = undef := inv.done 13 _ 30 rfl rfl rfl
          have q31 : a'.tmps.getD 31 undef = undef := inv.done 14 _ 31 rfl rfl rfl
          have q32 : a'.tmps.getD 32 undef = undef := inv.done 15 _ 32 rfl rfl rfl
          have q33 : a'.tmps.getD 33 undef = undef := inv.done 16 _ 33 rfl rfl rfl
          have q34 : a'.tmps.getD 34 undef = undef := inv.done 17 _ 34 rfl rfl rfl
          have q35 : a'.tmps.getD 35 undef = undef := inv.done 18 _ 35 rfl rfl rfl
          have q36 : a'.tmps.getD 36 undef = undef := inv.done 19 _ 36 rfl rfl rfl
          have q37 : a'.tmps.getD 37 undef = undef := inv.done 20 _ 37 rfl rfl rfl
          have q38 : a'.tmps.getD 38 undef = undef := inv.done 21 _ 38 rfl rfl rfl
          have q39 : a'.tmps.getD 39 undef = undef := inv.done 22 _ 39 rfl rfl rfl
          have q40 : a'.tmps.getD 40 undef = Value.bool true := inv.done 23 _ 40 rfl rfl rfl
          have q41 : a'.tmps.getD 41 undef = Value.bool true := inv.done 24 _ 41 rfl rfl rfl
          have q42 : a'.tmps.getD 42 undef = undef := inv.done 25 _ 42 rfl rfl rfl
          have q43 : a'.tmps.getD 43 undef = undef := inv.done 26 _ 43 rfl rfl rfl
          have q44 : a'.tmps.getD 44 undef = undef := inv.done 27 _ 44 rfl rfl rfl
          have q45 : a'.tmps.getD 45 undef = undef := inv.done 28 _ 45 rfl rfl rfl
          have q46 : a'.tmps.getD 46 undef = undef := inv.done 29 _ 46 rfl rfl rfl
          have q47 : a'.tmps.getD 47 undef = undef := inv.done 30 _ 47 rfl rfl rfl
          have q48 : a'.tmps.getD 48 undef = undef := inv.done 31 _ 48 rfl rfl rfl
          have q49 : a'.tmps.getD 49 undef = undef := inv.done 32 _ 49 rfl rfl rfl
          have q50 : a'.tmps.getD 50 undef = undef := inv.done 33 _ 50 rfl rfl rfl
          have q51 : a'.tmps.getD 51 undef = undef := inv.done 34 _ 51 rfl rfl rfl
          have q52 : a'.tmps.getD 52 undef = undef := inv.done 35 _ 52 rfl rfl rfl
          have q53 : a'.tmps.getD 53 undef = undef := inv.done 36 _ 53 rfl rfl rfl
          have q54 : a'.tmps.getD 54 undef = Value.bool true := inv.done 37 _ 54 rfl rfl rfl
          clear inv
          simp only [List.filterMap_cons, List.filterMap_nil, Par.putAll, Act.put, List.setIfInBounds_toArray, List.set_cons_succ, List.set_cons_zero, q17, q18, q19, q20, q21, q22, q23, q24, q25, q26, q27, q28, q29, q30, q31, q32, q33, q34, q35, q36, q37, q38, q39, q40, q41, q42, q43, q44, q45, q46, q47, q48, q49, q50, q51, q52, q53, q54]
          clear q17 q18 q19 q20 q21 q22 q23 q24 q25 q26 q27 q28 q29 q30 q31 q32 q33 q34 q35 q36 q37 q38 q39 q40 q41 q42 q43 q44 q45 q46 q47 q48 q49 q50 q51 q52 q53 q54
          clear a'
          go_wp2
          go_ret
          exact ⟨by rw [HFIN.out]; rfl, HE.out.trans hX⟩
      · obtain rfl : k = p.length := by omega
        have HFIN := hid (recsame_eq (l := p.map (·.1)) (m := q.map (·.1)) (by
          have h1 := HT.out
          rw [List.take_of_length_le (by simp), List.take_of_length_le (by simp [HLEN.out])] at h1
          exact h1))
        go_wp2
        go_ret
        exact ⟨by rw [HFIN.out]; rfl, HE.out⟩
  · have hne : ((p.length : Int) != (q.length : Int)) = true := by simp; omega
    have HFIN := hid (recsame_ne (l := p.map (·.1)) (m := q.map (·.1)) (fun e => hlen (by have := congrArg List.length e; simpa using this)))
    clear hlen
    go_enter Tryd.func16, Tryd.ntmps16
    go_wp2
    go_ret
    exact ⟨by rw [HFIN.out]; rfl, Ext.refl _⟩

section
variable {P : Program}
theorem wpList_append_row3 {ops : Array Oper} {rest : List Oper} {o : Oper} {a : Act} {w : World} {Q : Exit → Act → World → Prop} (hgd : o.guard = none) (s x : Operand) (t : Nat)
    (ho : o.op = .call { callee := .builtin .append, args := #[s, x], argTypes := #[t, t] }) (base T : Nat) (ht : P.underlying t = some (.slice T))
    (hi : (P.info? T).map (fun i => (i.zero, i.size, i.bytes)) = some (some (.agg #[.int .i64 0, .slice none 0 0, .string ⟨#[]⟩]), 3, 48))
    {v : Value} {n : Nat} {xs : List Value} (hs : a.eval s = v) (hown : w.ownsRow base T 3 v n xs) {g : Nat} {p q r : Value} (hx : a.eval x = .slice (some ⟨g, 0, none⟩) 1 1)
    {ty : TypeId} {fr : Nat × Nat} (hblk : w.heap[g]? = some (.cells #[p, q, r] ty fr)) (hp : p.oneCell' = true) (hq : q.oneCell' = true) (hr : r.oneCell' = true)
    (hb : (n + 1) * 48 ≤ 140737488355328) (hbase : base ≤ w.heap.size)
    (h : ∀ ao cap w', w'.ownsRow base T 3 (.slice ao (n + 1) cap) (n + 1) (xs ++ [p, q, r]) → w.grownBy w' v.ownBlock → Below base w w' → wpList P ops Q rest (a.put o.dst (.slice ao (n + 1) cap)) w') :
    wpList P ops Q (o :: rest) a w := by
  have hsl : Sl w 3 (.slice (some ⟨g, 0, none⟩) 1 1) 1 [p, q, r] := by
    refine ⟨rfl, some ⟨g, 0, none⟩, 1, rfl, Nat.le_refl _, by simp [maxLen], (fun h => by cases h), fun a ha j u hu => ?_⟩
    cases ha
    have e1 : (⟨g, 0, none⟩ : Addr).add j = ⟨g, j, none⟩ := by unfold Addr.add; split <;> simp_all
    rw [e1, cell_of_row _ _ _ _ _ _ hblk]
    simpa using hu
  refine wpList_append_sl hgd s x t ho base T ht hi rfl (by decide) hs hown hx hsl (by
      intro y' hy'
      simp at hy'
      rcases hy' with rfl | rfl | rfl
      · exact hp
      · exact hq
      · exact hr) (by simp [maxLen]; omega) (by omega) hbase fun ao cap w' k1 k2 k3 => h ao cap w' k1 k2 k3
end

set_option maxRecDepth 100000 in
set_option maxHeartbeats 1000000 in
theorem own5_any (v : Value) (l : List Rc) (w : World) (hb : Rcs w v l) (hl : l.length ≤ 1048576) :
    Calls Tryd.prog 17 #[v] w fun e w' => ∃ r, e = .returned r ∧ Rcs w' r l ∧ Ext w w' := by
  obtain ⟨m, hm, hr, hB⟩ := hb
  obtain ⟨ao, cap, rfl, hc1, hc2, hc3, hcell⟩ := hr.open
  have HC := hid hcell
  have HB := hid hB
  have hml : m.length = l.length := by rw [← hm]; simp
  have HM := hid hm
  have hml2 : m.length ≤ 1048576 := by omega
  clear hcell hB hr hm hml hl
  go_enter Tryd.func17, Tryd.ntmps17
  go_wp2
  go_loopw [3, 9] (fun o i wr => ∃ (k : Nat) (bo : Option Addr) (cbp : Nat), k ≤ m.length ∧ i = .int .i64 k ∧ o = .slice bo k cbp ∧ Hid (wr.ownsRow w.heap.size 30 3 (.slice bo k cbp) k ((m.take k).flatMap rcells)) ∧ Hid (Ext w wr)) (fun _ i _ => m.length - (intOf i).toNat)
  case atStart => exact ⟨0, some ⟨w.heap.size, 0, none⟩, 0, by omega, rfl, rfl, hid (by simpa using World.ownsRow_lit (base := w.heap.size) (e := 30) (size := 3) w #[] 0 (Nat.le_refl _) (by simp [maxLen]) (by simp)), Ext.alloc _ _⟩
  case round =>
    obtain ⟨k, bo, cbp, hk, rfl, rfl, HO, HE⟩ := hrel
    by_cases hlt : k < m.length
    · obtain ⟨a, rfl⟩ := hc3 (by omega)
      have c0 := cell_first (HE.out.cell (HC.out a rfl k hlt 0 _ rfl))
      have c1 := cell_next (HE.out.cell (HC.out a rfl k hlt 1 _ rfl)) (by decide)
      have c2 := cell_next (HE.out.cell (HC.out a rfl k hlt 2 _ rfl)) (by decide)
      obtain ⟨qa, qc, hq, -⟩ := (HB.out m[k] (List.getElem_mem hlt)).open
      obtain ⟨qn, hqn⟩ : ∃ n, n = m[k].1.n.length := ⟨_, rfl⟩
      rw [← hqn] at hq
      obtain ⟨k0, hk0⟩ : ∃ q, q = m[k].1.kind := ⟨_, rfl⟩
      obtain ⟨k2, hk2⟩ : ∃ q, q = m[k].1.text := ⟨_, rfl⟩
      rw [← hk0] at c0
      rw [hq] at c1
      rw [← hk2] at c2
      have hq0 : Value.slice qa qn qc = m[k].2 := hq.symm
      have hsnoc : (m.take (k + 1)).flatMap rcells = (m.take k).flatMap rcells ++ [.int .i64 k0, .slice qa qn qc, .string (str k2)] := by
        rw [List.take_succ_eq_append_getElem hlt, List.flatMap_append, hq0, hk0, hk2]; simp
      have HS := hid hsnoc
      have hblk : ((wr.alloc (.cells #[.int .i64 k0, .slice qa qn qc, .string (str k2)] 24)).alloc (.cells #[.int .i64 k0, .slice qa qn qc, .string (str k2)] 30)).heap[wr.heap.size + 1]? = some (.cells #[.int .i64 k0, .slice qa qn qc, .string (str k2)] 30) := by
        have := heap_alloc_new (wr.alloc (.cells #[.int .i64 k0, .slice qa qn qc, .string (str k2)] 24)) (.cells #[.int .i64 k0, .slice qa qn qc, .string (str k2)] 30)
        rwa [World.size_alloc] at this
      have HBLK := hid hblk
      have hN32 : (k + 1) * 48 ≤ 140737488355328 := by omega
      have hsz := HE.out.size
      clear hblk hsnoc hq0 hk0 hk2 hq hqn
      go_wp2_with (at_builtin; refine wpList_append_row3 rfl (.tmp 13) (.tmp 15) 43 rfl w.heap.size 30 Tryd.underlying43 infoRRc rfl ((Ext.alloc _ _).owns ((Ext.alloc _ _).owns HO.out)) rfl HBLK.out rfl rfl rfl hN32 (by simp; omega) ?_; intro ao2 cap2 w2 hown2 hg2 hb2)
      go_roundw
      case rel => exact ⟨k + 1, ao2, cap2, by omega, by go_num, rfl, hid (by rw [HS.out]; exact hown2), ((HE.out.trans (Ext.alloc _ _)).trans (Ext.alloc _ _)).below (hb2.mono (by omega))⟩
      case measure => simp [intOf]; omega
    · obtain rfl : k = m.length := by omega
      go_wp2
      go_ret
      have h1 := HO.out
      rw [List.take_length] at h1
      exact ⟨_, rfl, ⟨m, HM.out, ⟨fun _ _ => rfl, Sl.of_owns h1⟩, fun p hp => (HB.out p hp).ext HE.out⟩, HE.out⟩
end Go.Proofs.YtafdandnbbbdfaaDoor
