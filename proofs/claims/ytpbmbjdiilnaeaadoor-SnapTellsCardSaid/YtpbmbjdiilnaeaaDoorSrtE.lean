/- partitionEqual of a part of a row of numbers. -/
import Derived.Test.YtpbmbjdiilnaeaaDoorSrtP
set_option linter.unusedSimpArgs false
set_option linter.unusedVariables false
namespace Go.Proofs.YtpbmbjdiilnaeaaDoor
open Go Go.RowKit Go.Tum Go.ChangeMaps Go.Sort
open Go.ParB (upd Lof)
open Go.ParE (putS slotsR slots Closed)

theorem partEqLoop_unf (d : Array UInt64) (a i j : Nat) {I J : Nat} (hI : scanUp (fun x => !ltU d[a]! x) d j i = I) (hJ : scanDown (fun x => ltU d[a]! x) d I j = J) :
    partEqLoop ltU a i j d = if I > J then (I, d) else partEqLoop ltU a (I + 1) (J - 1) (swp d I J) := by
  rw [partEqLoop_eq]
  simp only [hI, hJ]
set_option maxRecDepth 100000 in
set_option maxHeartbeats 4000000 in
theorem partEqV_any {B : Nat} {w : World} (g n cap a b p : Nat) (d0 : Array UInt64) (h : RA w B g n cap d0) (hap : a ≤ p) (hpb : p < b) (hbn : b ≤ n) (hbig : n ≤ 4611686018427387903) :
    Calls Tryd.prog 47 #[.slice (some ⟨g, 0, none⟩) n cap, .int .i64 (a : Int), .int .i64 (b : Int), .int .i64 (p : Int)] w fun e w' =>
      e = .returned (.int .i64 ((partitionEqual ltU d0 a b p).1 : Int)) ∧ RA w' B g n cap (partitionEqual ltU d0 a b p).2 ∧ Fr [g] w w' := by
  obtain ⟨D, hD⟩ : ∃ D, partitionEqual ltU d0 a b p = D := ⟨_, rfl⟩
  rw [hD]
  have HD := hid hD
  have HR := hid h
  have HF : Hid (Fr [g] w w) := hid (Fr.refl _ _)
  obtain ⟨hcap1, hcap2⟩ := h.bound
  clear h hD
  obtain ⟨b1, hb1⟩ : ∃ b1, b1 + 1 = b := ⟨b - 1, by omega⟩
  have hwa : IntKind.i64.wrap ((a : Int) + 1) = ((a + 1 : Nat) : Int) := i64v _ (by omega) (by omega)
  have hwb : IntKind.i64.wrap ((b : Int) - 1) = (b1 : Int) := i64v _ (by omega) (by omega)
  have hb1n : b1 < n := by omega
  have hab1 : a ≤ b1 := by omega
  have hb1b : b1 < b := by omega
  have han : a < n := by omega
  have han2 : (a : Int) < n := by omega
  have hpn : p < n := by omega
  have hpn2 : (p : Int) < n := by omega
  have HD2 : Hid (partEqLoop ltU a (a + 1) b1 (swp d0 a p) = D) := hid (by have := HD.out; unfold partitionEqual at this; rw [show b - 1 = b1 by omega] at this; exact this)
  clear hb1 HD
  obtain ⟨za, Hza, HCza⟩ := cellV (B := B) (g := g) (n := n) (cap := cap) d0 a (by omega)
  obtain ⟨zp, Hzp, HCzp⟩ := cellV (B := B) (g := g) (n := n) (cap := cap) d0 p (by omega)
  go_enter Tryd.func47, Tryd.ntmps47
  go_wp2_with fail
  refine ParE.wp_region_e (l := [_, _, _, _, _, _, _, _, _, _, _, _, _, _, _, _]) rfl (Rg.Ch [13, 15] [] (SwV _ B g n cap a p za zp d0)) (ParC.VC [ParC.EQ (Value.slice (some ⟨g, 0, none⟩) n cap), ParC.EQ (Value.int IntKind.i64 (a : Int)), ParC.EQ (Value.slice (some ⟨g, 0, none⟩) n cap), ParC.EQ (Value.int IntKind.i64 (p : Int)), ParC.EQ (Value.slice (some ⟨g, 0, none⟩) n cap), ParC.EQ (Value.int IntKind.i64 (p : Int)), ParC.EQ (Value.pointer (some ⟨g, p, none⟩)), ParC.EQ (uv zp), ParC.EQ (Value.slice (some ⟨g, 0, none⟩) n cap), ParC.EQ (Value.int IntKind.i64 (a : Int)), ParC.EQ (Value.pointer (some ⟨g, a, none⟩)), ParC.EQ (uv za), ParC.EQ (Value.pointer (some ⟨g, a, none⟩)), fun _ => True, ParC.EQ (Value.pointer (some ⟨g, p, none⟩)), fun _ => True]) (by kernel_rfl) (by kernel_rfl) (Rg.Ch.start ⟨fun _ => Ext.draw _, trivial⟩) ?_ ?_
  · refine ⟨fun L ρ w' hR hC hL hd hk => ?_, ?_⟩
    · exact Par.val_of_run rfl ⟨hR.other (by decide), hk.1⟩
    refine ⟨fun L ρ w' hR hC hL hd hk => ?_, ?_⟩
    · exact Par.val_of_run rfl ⟨hR.other (by decide), hk.1⟩
    refine ⟨fun L ρ w' hR hC hL hd hk => ?_, ?_⟩
    · exact Par.val_of_run rfl ⟨hR.other (by decide), hk.1⟩
    refine ⟨fun L ρ w' hR hC hL hd hk => ?_, ?_⟩
    · exact Par.val_of_run rfl ⟨hR.other (by decide), hk.1⟩
    refine ⟨fun L ρ w' hR hC hL hd hk => ?_, ?_⟩
    · exact Par.val_of_run rfl ⟨hR.other (by decide), hk.1⟩
    refine ⟨fun L ρ w' hR hC hL hd hk => ?_, ?_⟩
    · exact Par.val_of_run rfl ⟨hR.other (by decide), hk.1⟩
    refine ⟨fun L ρ w' hR hC hL hd hk => ?_, ?_⟩
    · obtain ⟨k0, k1, -⟩ := hk
      have e0 : ρ (.tmp 15) = Value.slice (some ⟨g, 0, none⟩) n cap := k0
      have e1 : ρ (.tmp 16) = Value.int IntKind.i64 (p : Int) := k1
      clear k0 k1
      refine Par.val_k fun K hK => ?_
      unfold Par.val
      (go_simp; exact hK _ _ ⟨hR.other (by decide), rfl⟩)
    refine ⟨fun L ρ w' hR hC hL hd hk => ?_, ?_⟩
    · obtain ⟨k0, -⟩ := hk
      have e0 : ρ (.tmp 17) = Value.pointer (some ⟨g, p, none⟩) := k0
      clear k0
      refine Par.val_k fun K hK => ?_
      unfold Par.val
      (obtain ⟨ii, hii, hq⟩ := hR.some 0 rfl (hC.notyet 13 7 hL (by kernel_rfl)); have cc := HCzp.out _ (RA.ext (hq.1 (by omega)) HR.out); go_simp; exact hK _ _ ⟨hR.other (by decide), rfl⟩)
    refine ⟨fun L ρ w' hR hC hL hd hk => ?_, ?_⟩
    · exact Par.val_of_run rfl ⟨hR.other (by decide), hk.1⟩
    refine ⟨fun L ρ w' hR hC hL hd hk => ?_, ?_⟩
    · exact Par.val_of_run rfl ⟨hR.other (by decide), hk.1⟩
    refine ⟨fun L ρ w' hR hC hL hd hk => ?_, ?_⟩
    · obtain ⟨k0, k1, -⟩ := hk
      have e0 : ρ (.tmp 19) = Value.slice (some ⟨g, 0, none⟩) n cap := k0
      have e1 : ρ (.tmp 20) = Value.int IntKind.i64 (a : Int) := k1
      clear k0 k1
      refine Par.val_k fun K hK => ?_
      unfold Par.val
      (go_simp; exact hK _ _ ⟨hR.other (by decide), rfl⟩)
    refine ⟨fun L ρ w' hR hC hL hd hk => ?_, ?_⟩
    · obtain ⟨k0, -⟩ := hk
      have e0 : ρ (.tmp 21) = Value.pointer (some ⟨g, a, none⟩) := k0
      clear k0
      refine Par.val_k fun K hK => ?_
      unfold Par.val
      (obtain ⟨ii, hii, hq⟩ := hR.some 0 rfl (hC.notyet 13 11 hL (by kernel_rfl)); have cc := HCza.out _ (RA.ext (hq.1 (by omega)) HR.out); go_simp; exact hK _ _ ⟨hR.other (by decide), rfl⟩)
    refine ⟨fun L ρ w' hR hC hL hd hk => ?_, ?_⟩
    · obtain ⟨k0, k1, -⟩ := hk
      have e0 : ρ (.tmp 11) = Value.slice (some ⟨g, 0, none⟩) n cap := k0
      have e1 : ρ (.tmp 12) = Value.int IntKind.i64 (a : Int) := k1
      clear k0 k1
      refine Par.val_k fun K hK => ?_
      unfold Par.val
      (go_simp; exact hK _ _ ⟨hR.other (by decide), rfl⟩)
    refine ⟨fun L ρ w' hR hC hL hd hk => ?_, ?_⟩
    · obtain ⟨k0, k1, -⟩ := hk
      have e0 : ρ (.tmp 23) = Value.pointer (some ⟨g, a, none⟩) := k0
      have e1 : ρ (.tmp 18) = uv zp := k1
      clear k0 k1
      refine Par.val_k fun K hK => ?_
      unfold Par.val
      (obtain ⟨hq, hs⟩ := hR.go 0 rfl hL (.inl rfl) (by decide); have hx := hq.1 (by decide); have hrow := RA.ext hx HR.out; obtain ⟨cc, ff⟩ := hrow.at (j := a) (by omega); obtain ⟨hset, hfs⟩ := hrow.set a zp; have HSET := hid hset; have HFS := hid hfs; clear hset hfs hrow; go_simp; exact hK _ _ ⟨hs none _ _ ⟨fun h => absurd h (by decide), HSET.out, (Ext.fr hx).trans HFS.out⟩, trivial⟩)
    refine ⟨fun L ρ w' hR hC hL hd hk => ?_, ?_⟩
    · obtain ⟨k0, k1, -⟩ := hk
      have e0 : ρ (.tmp 13) = Value.slice (some ⟨g, 0, none⟩) n cap := k0
      have e1 : ρ (.tmp 14) = Value.int IntKind.i64 (p : Int) := k1
      clear k0 k1
      refine Par.val_k fun K hK => ?_
      unfold Par.val
      (go_simp; exact hK _ _ ⟨hR.other (by decide), rfl⟩)
    refine ⟨fun L ρ w' hR hC hL hd hk => ?_, ?_⟩
    · obtain ⟨k0, k1, -⟩ := hk
      have e0 : ρ (.tmp 24) = Value.pointer (some ⟨g, p, none⟩) := k0
      have e1 : ρ (.tmp 22) = uv za := k1
      clear k0 k1
      refine Par.val_k fun K hK => ?_
      unfold Par.val
      (obtain ⟨hq, hs⟩ := hR.go 1 rfl hL (.inr ⟨13, rfl, hC.before 13 (i := 15) rfl hd (by kernel_rfl)⟩) (by decide); obtain ⟨hrow, hfr⟩ := hq.2; obtain ⟨cc, ff⟩ := hrow.at (j := p) (by omega); obtain ⟨hset, hfs⟩ := hrow.set p za; have HSET := hid hset; have HFS := hid hfs; have HFR := hid hfr; clear hset hfs hrow hfr; go_simp; exact hK _ _ ⟨hs none _ _ ⟨fun h => absurd h (by decide), HSET.out, HFR.out.trans HFS.out⟩, trivial⟩)
    trivial
  intro a' w' inv hR
  have q11 : a'.tmps.getD 11 undef = Value.slice (some ⟨g, 0, none⟩) n cap := inv.done 0 _ 11 rfl rfl rfl
  have q12 : a'.tmps.getD 12 undef = Value.int IntKind.i64 (a : Int) := inv.done 1 _ 12 rfl rfl rfl
  have q13 : a'.tmps.getD 13 undef = Value.slice (some ⟨g, 0, none⟩) n cap := inv.done 2 _ 13 rfl rfl rfl
  have q14 : a'.tmps.getD 14 undef = Value.int IntKind.i64 (p : Int) := inv.done 3 _ 14 rfl rfl rfl
  have q15 : a'.tmps.getD 15 undef = Value.slice (some ⟨g, 0, none⟩) n cap := inv.done 4 _ 15 rfl rfl rfl
  have q16 : a'.tmps.getD 16 undef = Value.int IntKind.i64 (p : Int) := inv.done 5 _ 16 rfl rfl rfl
  have q17 : a'.tmps.getD 17 undef = Value.pointer (some ⟨g, p, none⟩) := inv.done 6 _ 17 rfl rfl rfl
  have q18 : a'.tmps.getD 18 undef = uv zp := inv.done 7 _ 18 rfl rfl rfl
  have q19 : a'.tmps.getD 19 undef = Value.slice (some ⟨g, 0, none⟩) n cap := inv.done 8 _ 19 rfl rfl rfl
  have q20 : a'.tmps.getD 20 undef = Value.int IntKind.i64 (a : Int) := inv.done 9 _ 20 rfl rfl rfl
  have q21 : a'.tmps.getD 21 undef = Value.pointer (some ⟨g, a, none⟩) := inv.done 10 _ 21 rfl rfl rfl
  have q22 : a'.tmps.getD 22 undef = uv za := inv.done 11 _ 22 rfl rfl rfl
  have q23 : a'.tmps.getD 23 undef = Value.pointer (some ⟨g, a, none⟩) := inv.done 12 _ 23 rfl rfl rfl
  have q24 : a'.tmps.getD 24 undef = Value.pointer (some ⟨g, p, none⟩) := inv.done 14 _ 24 rfl rfl rfl
  clear inv
  simp only [List.filterMap_cons, List.filterMap_nil, Par.putAll, Act.put, List.setIfInBounds_toArray, List.set_cons_succ, List.set_cons_zero, q11, q12, q13, q14, q15, q16, q17, q18, q19, q20, q21, q22, q23, q24]
  clear q11 q12 q13 q14 q15 q16 q17 q18 q19 q20 q21 q22 q23 q24
  obtain ⟨-, hrd, hf⟩ := Rg.Ch.fin hR (by decide) 2 rfl; have HRD := hid hrd; have HF4 := hid hf; clear hrd hf hR
  try clear a'
  have HR3 := hid (RA.swp Hza Hzp HRD.out)
  have HF3 := hid (HF.out.trans HF4.out)
  clear HRD HF4 HR HF
  have HR := HR3
  have HF := HF3
  clear HR3 HF3
  obtain ⟨d1, he⟩ : ∃ e, e = swp d0 a p := ⟨_, rfl⟩
  rw [← he] at HR HD2
  clear Hza Hzp HCza HCzp he
  obtain ⟨I0, hI0⟩ : ∃ I0, I0 = a + 1 := ⟨_, rfl⟩
  rw [← hI0] at HD2
  have hI0a : a + 1 ≤ I0 := by omega
  have hI0b : I0 ≤ b := by omega
  have HI0 := hid hI0
  clear hI0
  go_wp2_with fail
  go_loopw [9, 10] (fun iv jv wr => ∃ (i j : Nat) (e : Array UInt64), a + 1 ≤ i ∧ i ≤ b ∧ a ≤ j ∧ j < b ∧ iv = .int .i64 (i : Int) ∧ jv = .int .i64 (j : Int) ∧ Hid (RA wr B g n cap e) ∧ Hid (partEqLoop ltU a i j e = D) ∧ Hid (Fr [g] w wr)) (fun iv _ _ => n + 1 - (intOf iv).toNat)
  case atStart => exact ⟨I0, b1, d1, hI0a, hI0b, hab1, hb1b, by first | rfl | exact congrArg _ (by have := HI0.out; omega) | go_num, by first | rfl | go_num, HR, HD2, HF⟩
  case round =>
    clear HR HF HD2 hwa hwb
    obtain ⟨i0, j0, d, hi0a, hi0b, hj0a, hj0b, rfl, rfl, HR, HL, HF⟩ := hrel
    go_upto_block 2 with fail
    go_cut [9] from 29 to 82 (fun iv wx => ∃ i : Nat, a + 1 ≤ i ∧ i ≤ b ∧ iv = .int .i64 (i : Int) ∧ Hid (RA wx B g n cap d) ∧ Hid (scanUp (fun x => !ltU d[a]! x) d j0 i0 = i) ∧ Hid (Fr [g] w wx))
    case first =>
      go_wp2_with fail
      go_loopw [9] (fun iv wr => ∃ i : Nat, a + 1 ≤ i ∧ i ≤ b ∧ iv = .int .i64 (i : Int) ∧ Hid (RA wr B g n cap d) ∧ Hid (scanUp (fun x => !ltU d[a]! x) d j0 i = scanUp (fun x => !ltU d[a]! x) d j0 i0) ∧ Hid (Fr [g] w wr)) (fun iv _ => n + 1 - (intOf iv).toNat)
      case atStart => exact ⟨i0, by omega, by omega, by first | rfl | go_num, HR, hid rfl, HF⟩
      case round =>
        clear HR HF
        obtain ⟨i, hi1, hi2, rfl, HR, HO, HF⟩ := hrel
        rcases Nat.lt_or_ge j0 i with hji | hji
        · have hcmp : (i ≤ j0) = False := by simp; omega
          go_wp2_with fail
          refine Par.wp_region_par (l := [_, _, _, _, _, _, _, _, _, _, _, _, _, _, _]) rfl Ext (Par.VL [Par.EQ (Value.int IntKind.i64 (i : Int)), Par.EQ (Value.int IntKind.i64 (j0 : Int)), Par.EQ (Value.bool false), Par.EQ (Value.bool false), Par.EQ (undef), Par.EQ (undef), Par.EQ (undef), Par.EQ (undef), Par.EQ (undef), Par.EQ (undef), Par.EQ (undef), Par.EQ (undef), Par.EQ (undef), Par.EQ (undef), Par.EQ (Value.bool false)]) (by kernel_rfl) Ext.refl (fun _ _ _ h1 h2 => Ext.trans h1 h2) (Ext.draw _) (Par.VL_stab ?_) ?_ ?_
          · simp only [List.forall_mem_cons, List.not_mem_nil, false_implies, implies_true, and_true]
            refine ⟨fun _ _ _ _ h => h, fun _ _ _ _ h => h, fun _ _ _ _ h => h, fun _ _ _ _ h => h, fun _ _ _ _ h => h, fun _ _ _ _ h => h, fun _ _ _ _ h => h, fun _ _ _ _ h => h, fun _ _ _ _ h => h, fun _ _ _ _ h => h, fun _ _ _ _ h => h, fun _ _ _ _ h => h, fun _ _ _ _ h => h, fun _ _ _ _ h => h, fun _ _ _ _ h => h⟩
          · refine ⟨⟨fun _ _ => trivial, fun ρ w' hX hG hk => ?_⟩, ?_⟩
            · exact Par.val_of_run rfl ⟨Ext.refl _, hk.1⟩
            refine ⟨⟨fun _ _ => trivial, fun ρ w' hX hG hk => ?_⟩, ?_⟩
            · exact Par.val_of_run rfl ⟨Ext.refl _, hk.1⟩
            refine ⟨⟨fun _ _ => trivial, fun ρ w' hX hG hk => ?_⟩, ?_⟩
            · obtain ⟨k0, k1, -⟩ := hk
              have e0 : ρ (.tmp 29) = Value.int IntKind.i64 (i : Int) := k0
              have e1 : ρ (.tmp 30) = Value.int IntKind.i64 (j0 : Int) := k1
              clear k0 k1
              refine Par.val_k fun K hK => ?_
              unfold Par.val
              (go_simp; exact hK _ _ ⟨Ext.refl _, rfl⟩)
            refine ⟨⟨fun _ _ => trivial, fun ρ w' hX hG hk => ?_⟩, ?_⟩
            · exact Par.val_of_run rfl ⟨Ext.refl _, hk.1⟩
            refine ⟨⟨fun _ _ u hu => .inr rfl, fun ρ w' hX hG hk => ?_⟩, ?_⟩
            · cases hG
            refine ⟨⟨fun _ _ u hu => .inr rfl, fun ρ w' hX hG hk => ?_⟩, ?_⟩
            · cases hG
            refine ⟨⟨fun _ _ u hu => .inr rfl, fun ρ w' hX hG hk => ?_⟩, ?_⟩
            · cases hG
            refine ⟨⟨fun _ _ u hu => .inr rfl, fun ρ w' hX hG hk => ?_⟩, ?_⟩
            · cases hG
            refine ⟨⟨fun _ _ u hu => .inr rfl, fun ρ w' hX hG hk => ?_⟩, ?_⟩
            · cases hG
            refine ⟨⟨fun _ _ u hu => .inr rfl, fun ρ w' hX hG hk => ?_⟩, ?_⟩
            · cases hG
            refine ⟨⟨fun _ _ u hu => .inr rfl, fun ρ w' hX hG hk => ?_⟩, ?_⟩
            · cases hG
            refine ⟨⟨fun _ _ u hu => .inr rfl, fun ρ w' hX hG hk => ?_⟩, ?_⟩
            · cases hG
            refine ⟨⟨fun _ _ u hu => .inr rfl, fun ρ w' hX hG hk => ?_⟩, ?_⟩
            · cases hG
            refine ⟨⟨fun _ _ u hu => .inr rfl, fun ρ w' hX hG hk => ?_⟩, ?_⟩
            · cases hG
            refine ⟨⟨fun _ _ => trivial, fun ρ w' hX hG hk => ?_⟩, ?_⟩
            · obtain ⟨k0, k1, k2, -⟩ := hk
              have e0 : ρ (.tmp 32) = Value.bool false := k0
              have e1 : ρ (.tmp 42) = undef := k1
              have e2 : ρ (Operand.const (Value.bool false)) = (Value.bool false) := k2
              clear k0 k1 k2
              refine Par.val_k fun K hK => ?_
              unfold Par.val
              (go_simp; exact hK _ _ ⟨Ext.refl _, rfl⟩)
            trivial
          intro a' w' inv
          have hX := inv.ext
          have q29 : a'.tmps.getD 29 undef = Value.int IntKind.i64 (i : Int) := inv.done 0 _ 29 rfl rfl rfl
          have q30 : a'.tmps.getD 30 undef = Value.int IntKind.i64 (j0 : Int) := inv.done 1 _ 30 rfl rfl rfl
          have q31 : a'.tmps.getD 31 undef = Value.bool false := inv.done 2 _ 31 rfl rfl rfl
          have q32 : a'.tmps.getD 32 undef = Value.bool false := inv.done 3 _ 32 rfl rfl rfl
          have q33 : a'.tmps.getD 33 undef = undef := inv.done 4 _ 33 rfl rfl rfl
          have q34 : a'.tmps.getD 34 undef = undef := inv.done 5 _ 34 rfl rfl rfl
          have q35 : a'.tmps.getD 35 undef = undef := inv.done 6 _ 35 rfl rfl rfl
          have q36 : a'.tmps.getD 36 undef = undef := inv.done 7 _ 36 rfl rfl rfl
          have q37 : a'.tmps.getD 37 undef = undef := inv.done 8 _ 37 rfl rfl rfl
          have q38 : a'.tmps.getD 38 undef = undef := inv.done 9 _ 38 rfl rfl rfl
          have q39 : a'.tmps.getD 39 undef = undef := inv.done 10 _ 39 rfl rfl rfl
          have q40 : a'.tmps.getD 40 undef = undef := inv.done 11 _ 40 rfl rfl rfl
          have q41 : a'.tmps.getD 41 undef = undef := inv.done 12 _ 41 rfl rfl rfl
          have q42 : a'.tmps.getD 42 undef = undef := inv.done 13 _ 42 rfl rfl rfl
          have q43 : a'.tmps.getD 43 undef = Value.bool false := inv.done 14 _ 43 rfl rfl rfl
          clear inv
          simp only [List.filterMap_cons, List.filterMap_nil, Par.putAll, Act.put, List.setIfInBounds_toArray, List.set_cons_succ, List.set_cons_zero, q29, q30, q31, q32, q33, q34, q35, q36, q37, q38, q39, q40, q41, q42, q43]
          clear q29 q30 q31 q32 q33 q34 q35 q36 q37 q38 q39 q40 q41 q42 q43
          clear a'
          have HF2 := hid (HF.out.trans (Ext.fr hX))
          have HR2 := hid (RA.ext hX HR.out)
          clear hX HF HR
          have HF := HF2
          have HR := HR2
          clear HF2 HR2
          have HO2 := hid (HO.out.symm.trans (scanUp_stop (fun x => !ltU d[a]! x) d _ i hji))
          clear hcmp
          go_wp2
          go_meet
          case rel => exact ⟨i, hi1, hi2, rfl, HR, HO2, HF⟩
        · have hwi : IntKind.i64.wrap ((i : Int) + 1) = ((i + 1 : Nat) : Int) := i64v _ (by omega) (by omega)
          have hin : i < n := by omega
          have hin2 : (i : Int) < n := by omega
          obtain ⟨zi, Hzi, HCzi⟩ := cellV (B := B) (g := g) (n := n) (cap := cap) d i (by omega)
          obtain ⟨za, Hza, HCza⟩ := cellV (B := B) (g := g) (n := n) (cap := cap) d a (by omega)
          obtain ⟨b0, Hb0⟩ : ∃ b, Hid (ltU za zi = b) := ⟨_, hid rfl⟩
          have HIN : Hid (scanUp (fun x => !ltU d[a]! x) d j0 i = if (!b0) then scanUp (fun x => !ltU d[a]! x) d j0 (i + 1) else i) := hid (by rw [scanUp_go (fun x => !ltU d[a]! x) d _ i hji]; simp only [Hzi.out, Hza.out, Hb0.out])
          go_wp2_with fail
          refine Par.wp_region_par (l := [_, _, _, _, _, _, _, _, _, _, _, _, _, _, _]) rfl Ext (Par.VL [Par.EQ (Value.int IntKind.i64 (i : Int)), Par.EQ (Value.int IntKind.i64 (j0 : Int)), Par.EQ (Value.bool true), Par.EQ (Value.bool true), Par.EQ (Value.slice (some ⟨g, 0, none⟩) n cap), Par.EQ (Value.int IntKind.i64 (a : Int)), Par.EQ (Value.pointer (some ⟨g, a, none⟩)), Par.EQ (uv za), Par.EQ (Value.slice (some ⟨g, 0, none⟩) n cap), Par.EQ (Value.int IntKind.i64 (i : Int)), Par.EQ (Value.pointer (some ⟨g, i, none⟩)), Par.EQ (uv zi), Par.EQ (Value.bool b0), Par.EQ (Value.bool (!b0)), Par.EQ (Value.bool (!b0))]) (by kernel_rfl) Ext.refl (fun _ _ _ h1 h2 => Ext.trans h1 h2) (Ext.draw _) (Par.VL_stab ?_) ?_ ?_
          · simp only [List.forall_mem_cons, List.not_mem_nil, false_implies, implies_true, and_true]
            refine ⟨fun _ _ _ _ h => h, fun _ _ _ _ h => h, fun _ _ _ _ h => h, fun _ _ _ _ h => h, fun _ _ _ _ h => h, fun _ _ _ _ h => h, fun _ _ _ _ h => h, fun _ _ _ _ h => h, fun _ _ _ _ h => h, fun _ _ _ _ h => h, fun _ _ _ _ h => h, fun _ _ _ _ h => h, fun _ _ _ _ h => h, fun _ _ _ _ h => h, fun _ _ _ _ h => h⟩
          · refine ⟨⟨fun _ _ => trivial, fun ρ w' hX hG hk => ?_⟩, ?_⟩
            · exact Par.val_of_run rfl ⟨Ext.refl _, hk.1⟩
            refine ⟨⟨fun _ _ => trivial, fun ρ w' hX hG hk => ?_⟩, ?_⟩
            · exact Par.val_of_run rfl ⟨Ext.refl _, hk.1⟩
            refine ⟨⟨fun _ _ => trivial, fun ρ w' hX hG hk => ?_⟩, ?_⟩
            · obtain ⟨k0, k1, -⟩ := hk
              have e0 : ρ (.tmp 29) = Value.int IntKind.i64 (i : Int) := k0
              have e1 : ρ (.tmp 30) = Value.int IntKind.i64 (j0 : Int) := k1
              clear k0 k1
              refine Par.val_k fun K hK => ?_
              unfold Par.val
              (go_simp; exact hK _ _ ⟨Ext.refl _, rfl⟩)
            refine ⟨⟨fun _ _ => trivial, fun ρ w' hX hG hk => ?_⟩, ?_⟩
            · exact Par.val_of_run rfl ⟨Ext.refl _, hk.1⟩
            refine ⟨⟨fun _ _ u hu => .inl hu, fun ρ w' hX hG hk => ?_⟩, ?_⟩
            · exact Par.val_of_run rfl ⟨Ext.refl _, hk.1⟩
            refine ⟨⟨fun _ _ u hu => .inl hu, fun ρ w' hX hG hk => ?_⟩, ?_⟩
            · exact Par.val_of_run rfl ⟨Ext.refl _, hk.1⟩
            refine ⟨⟨fun _ _ u hu => .inl hu, fun ρ w' hX hG hk => ?_⟩, ?_⟩
            · obtain ⟨k0, k1, -⟩ := hk
              have e0 : ρ (.tmp 33) = Value.slice (some ⟨g, 0, none⟩) n cap := k0
              have e1 : ρ (.tmp 34) = Value.int IntKind.i64 (a : Int) := k1
              clear k0 k1
              refine Par.val_k fun K hK => ?_
              unfold Par.val
              (go_simp; exact hK _ _ ⟨Ext.refl _, rfl⟩)
            refine ⟨⟨fun _ _ u hu => .inl hu, fun ρ w' hX hG hk => ?_⟩, ?_⟩
            · obtain ⟨k0, -⟩ := hk
              have e0 : ρ (.tmp 35) = Value.pointer (some ⟨g, a, none⟩) := k0
              clear k0
              refine Par.val_k fun K hK => ?_
              unfold Par.val
              (have cc := HCza.out _ (RA.ext hX HR.out); go_simp; exact hK _ _ ⟨Ext.refl _, rfl⟩)
            refine ⟨⟨fun _ _ u hu => .inl hu, fun ρ w' hX hG hk => ?_⟩, ?_⟩
            · exact Par.val_of_run rfl ⟨Ext.refl _, hk.1⟩
            refine ⟨⟨fun _ _ u hu => .inl hu, fun ρ w' hX hG hk => ?_⟩, ?_⟩
            · exact Par.val_of_run rfl ⟨Ext.refl _, hk.1⟩
            refine ⟨⟨fun _ _ u hu => .inl hu, fun ρ w' hX hG hk => ?_⟩, ?_⟩
            · obtain ⟨k0, k1, -⟩ := hk
              have e0 : ρ (.tmp 37) = Value.slice (some ⟨g, 0, none⟩) n cap := k0
              have e1 : ρ (.tmp 38) = Value.int IntKind.i64 (i : Int) := k1
              clear k0 k1
              refine Par.val_k fun K hK => ?_
              unfold Par.val
              (go_simp; exact hK _ _ ⟨Ext.refl _, rfl⟩)
            refine ⟨⟨fun _ _ u hu => .inl hu, fun ρ w' hX hG hk => ?_⟩, ?_⟩
            · obtain ⟨k0, -⟩ := hk
              have e0 : ρ (.tmp 39) = Value.pointer (some ⟨g, i, none⟩) := k0
              clear k0
              refine Par.val_k fun K hK => ?_
              unfold Par.val
              (have cc := HCzi.out _ (RA.ext hX HR.out); go_simp; exact hK _ _ ⟨Ext.refl _, rfl⟩)
            refine ⟨⟨fun _ _ u hu => .inl hu, fun ρ w' hX hG hk => ?_⟩, ?_⟩
            · obtain ⟨k0, k1, k2, -⟩ := hk
              have e0 := k0
              have e1 : ρ (.tmp 36) = uv za := k1
              have e2 : ρ (.tmp 40) = uv zi := k2
              clear k0 k1 k2
              refine Par.val_k fun K hK => ?_
              unfold Par.val
              refine Par.val_call Tryd.func46 (by kernel_rfl) rfl e0 ?_
              simp only [List.map_toArray, List.map_cons, List.map_nil, e1, e2]
              refine (lessU_any za zi _).mono ?_
              rintro e w2 ⟨rfl, rfl⟩
              exact ⟨_, rfl, hK _ _ ⟨Ext.refl _, (congrArg Value.bool Hb0.out)⟩⟩
            refine ⟨⟨fun _ _ u hu => .inl hu, fun ρ w' hX hG hk => ?_⟩, ?_⟩
            · obtain ⟨k0, -⟩ := hk
              have e0 : ρ (.tmp 41) = Value.bool b0 := k0
              clear k0
              refine Par.val_k fun K hK => ?_
              unfold Par.val
              (go_simp; exact hK _ _ ⟨Ext.refl _, rfl⟩)
            refine ⟨⟨fun _ _ => trivial, fun ρ w' hX hG hk => ?_⟩, ?_⟩
            · obtain ⟨k0, k1, k2, -⟩ := hk
              have e0 : ρ (.tmp 32) = Value.bool true := k0
              have e1 : ρ (.tmp 42) = Value.bool (!b0) := k1
              have e2 : ρ (Operand.const (Value.bool false)) = (Value.bool false) := k2
              clear k0 k1 k2
              refine Par.val_k fun K hK => ?_
              unfold Par.val
              (go_simp; exact hK _ _ ⟨Ext.refl _, rfl⟩)
            trivial
          intro a' w' inv
          have hX := inv.ext
          have q29 : a'.tmps.getD 29 undef = Value.int IntKind.i64 (i : Int) := inv.done 0 _ 29 rfl rfl rfl
          have q30 : a'.tmps.getD 30 undef = Value.int IntKind.i64 (j0 : Int) := inv.done 1 _ 30 rfl rfl rfl
          have q31 : a'.tmps.getD 31 undef = Value.bool true := inv.done 2 _ 31 rfl rfl rfl
          have q32 : a'.tmps.getD 32 undef = Value.bool true := inv.done 3 _ 32 rfl rfl rfl
          have q33 : a'.tmps.getD 33 undef = Value.slice (some ⟨g, 0, none⟩) n cap := inv.done 4 _ 33 rfl rfl rfl
          have q34 : a'.tmps.getD 34 undef = Value.int IntKind.i64 (a : Int) := inv.done 5 _ 34 rfl rfl rfl
          have q35 : a'.tmps.getD 35 undef = Value.pointer (some ⟨g, a, none⟩) := inv.done 6 _ 35 rfl rfl rfl
          have q36 : a'.tmps.getD 36 undef = uv za := inv.done 7 _ 36 rfl rfl rfl
          have q37 : a'.tmps.getD 37 undef = Value.slice (some ⟨g, 0, none⟩) n cap := inv.done 8 _ 37 rfl rfl rfl
          have q38 : a'.tmps.getD 38 undef = Value.int IntKind.i64 (i : Int) := inv.done 9 _ 38 rfl rfl rfl
          have q39 : a'.tmps.getD 39 undef = Value.pointer (some ⟨g, i, none⟩) := inv.done 10 _ 39 rfl rfl rfl
          have q40 : a'.tmps.getD 40 undef = uv zi := inv.done 11 _ 40 rfl rfl rfl
          have q41 : a'.tmps.getD 41 undef = Value.bool b0 := inv.done 12 _ 41 rfl rfl rfl
          have q42 : a'.tmps.getD 42 undef = Value.bool (!b0) := inv.done 13 _ 42 rfl rfl rfl
          have q43 : a'.tmps.getD 43 undef = Value.bool (!b0) := inv.done 14 _ 43 rfl rfl rfl
          clear inv
          simp only [List.filterMap_cons, List.filterMap_nil, Par.putAll, Act.put, List.setIfInBounds_toArray, List.set_cons_succ, List.set_cons_zero, q29, q30, q31, q32, q33, q34, q35, q36, q37, q38, q39, q40, q41, q42, q43]
          clear q29 q30 q31 q32 q33 q34 q35 q36 q37 q38 q39 q40 q41 q42 q43
          clear a'
          have HF2 := hid (HF.out.trans (Ext.fr hX))
          have HR2 := hid (RA.ext hX HR.out)
          clear hX HF HR
          have HF := HF2
          have HR := HR2
          clear HF2 HR2
          cases b0
          case true =>
            have HO2 : Hid (scanUp (fun x => !ltU d[a]! x) d j0 i0 = i) := hid (by have := HO.out; rw [HIN.out] at this; simpa using this.symm)
            go_wp2
            go_meet
            case rel => exact ⟨i, hi1, hi2, rfl, HR, HO2, HF⟩
          case false =>
            have HO2 : Hid (scanUp (fun x => !ltU d[a]! x) d j0 (i + 1) = scanUp (fun x => !ltU d[a]! x) d j0 i0) := hid (by have := HO.out; rw [HIN.out] at this; simpa using this)
            go_wp2
            go_roundw
            case rel => exact ⟨i + 1, by omega, by omega, by first | rfl | go_num, HR, HO2, HF⟩
            case measure => simp [intOf] <;> omega
    case rest =>
      clear HR HF
      obtain ⟨I, hI1, hI2, rfl, HR, HI, HF⟩ := hcut
      go_upto_block 4 with fail
      go_cut [10] from 29 to 82 (fun jv wx => ∃ j : Nat, a ≤ j ∧ j < b ∧ jv = .int .i64 (j : Int) ∧ Hid (RA wx B g n cap d) ∧ Hid (scanDown (fun x => ltU d[a]! x) d I j0 = j) ∧ Hid (Fr [g] w wx))
      case first =>
        go_wp2_with fail
        go_loopw [10] (fun jv wr => ∃ j : Nat, a ≤ j ∧ j < b ∧ jv = .int .i64 (j : Int) ∧ Hid (RA wr B g n cap d) ∧ Hid (scanDown (fun x => ltU d[a]! x) d I j = scanDown (fun x => ltU d[a]! x) d I j0) ∧ Hid (Fr [g] w wr)) (fun jv _ => (intOf jv).toNat)
        case atStart => exact ⟨j0, by omega, by omega, by first | rfl | go_num, HR, hid rfl, HF⟩
        case round =>
          clear HR HF
          obtain ⟨j, hj1, hj2, rfl, HR, HO, HF⟩ := hrel
          rcases Nat.lt_or_ge j I with hji | hji
          · have hcmp : (I ≤ j) = False := by simp; omega
            go_wp2_with fail
            refine Par.wp_region_par (l := [_, _, _, _, _, _, _, _, _, _, _, _, _, _]) rfl Ext (Par.VL [Par.EQ (Value.int IntKind.i64 (I : Int)), Par.EQ (Value.int IntKind.i64 (j : Int)), Par.EQ (Value.bool false), Par.EQ (Value.bool false), Par.EQ (undef), Par.EQ (undef), Par.EQ (undef), Par.EQ (undef), Par.EQ (undef), Par.EQ (undef), Par.EQ (undef), Par.EQ (undef), Par.EQ (undef), Par.EQ (Value.bool false)]) (by kernel_rfl) Ext.refl (fun _ _ _ h1 h2 => Ext.trans h1 h2) (Ext.draw _) (Par.VL_stab ?_) ?_ ?_
            · simp only [List.forall_mem_cons, List.not_mem_nil, false_implies, implies_true, and_true]
              refine ⟨fun _ _ _ _ h => h, fun _ _ _ _ h => h, fun _ _ _ _ h => h, fun _ _ _ _ h => h, fun _ _ _ _ h => h, fun _ _ _ _ h => h, fun _ _ _ _ h => h, fun _ _ _ _ h => h, fun _ _ _ _ h => h, fun _ _ _ _ h => h, fun _ _ _ _ h => h, fun _ _ _ _ h => h, fun _ _ _ _ h => h, fun _ _ _ _ h => h⟩
            · refine ⟨⟨fun _ _ => trivial, fun ρ w' hX hG hk => ?_⟩, ?_⟩
              · exact Par.val_of_run rfl ⟨Ext.refl _, hk.1⟩
              refine ⟨⟨fun _ _ => trivial, fun ρ w' hX hG hk => ?_⟩, ?_⟩
              · exact Par.val_of_run rfl ⟨Ext.refl _, hk.1⟩
              refine ⟨⟨fun _ _ => trivial, fun ρ w' hX hG hk => ?_⟩, ?_⟩
              · obtain ⟨k0, k1, -⟩ := hk
                have e0 : ρ (.tmp 46) = Value.int IntKind.i64 (I : Int) := k0
                have e1 : ρ (.tmp 47) = Value.int IntKind.i64 (j : Int) := k1
                clear k0 k1
                refine Par.val_k fun K hK => ?_
                unfold Par.val
                (go_simp; exact hK _ _ ⟨Ext.refl _, rfl⟩)
              refine ⟨⟨fun _ _ => trivial, fun ρ w' hX hG hk => ?_⟩, ?_⟩
              · exact Par.val_of_run rfl ⟨Ext.refl _, hk.1⟩
              refine ⟨⟨fun _ _ u hu => .inr rfl, fun ρ w' hX hG hk => ?_⟩, ?_⟩
              · cases hG
              refine ⟨⟨fun _ _ u hu => .inr rfl, fun ρ w' hX hG hk => ?_⟩, ?_⟩
              · cases hG
              refine ⟨⟨fun _ _ u hu => .inr rfl, fun ρ w' hX hG hk => ?_⟩, ?_⟩
              · cases hG
              refine ⟨⟨fun _ _ u hu => .inr rfl, fun ρ w' hX hG hk => ?_⟩, ?_⟩
              · cases hG
              refine ⟨⟨fun _ _ u hu => .inr rfl, fun ρ w' hX hG hk => ?_⟩, ?_⟩
              · cases hG
              refine ⟨⟨fun _ _ u hu => .inr rfl, fun ρ w' hX hG hk => ?_⟩, ?_⟩
              · cases hG
              refine ⟨⟨fun _ _ u hu => .inr rfl, fun ρ w' hX hG hk => ?_⟩, ?_⟩
              · cases hG
              refine ⟨⟨fun _ _ u hu => .inr rfl, fun ρ w' hX hG hk => ?_⟩, ?_⟩
              · cases hG
              refine ⟨⟨fun _ _ u hu => .inr rfl, fun ρ w' hX hG hk => ?_⟩, ?_⟩
              · cases hG
              refine ⟨⟨fun _ _ => trivial, fun ρ w' hX hG hk => ?_⟩, ?_⟩
              · obtain ⟨k0, k1, k2, -⟩ := hk
                have e0 : ρ (.tmp 49) = Value.bool false := k0
                have e1 : ρ (.tmp 58) = undef := k1
                have e2 : ρ (Operand.const (Value.bool false)) = (Value.bool false) := k2
                clear k0 k1 k2
                refine Par.val_k fun K hK => ?_
                unfold Par.val
                (go_simp; exact hK _ _ ⟨Ext.refl _, rfl⟩)
              trivial
            intro a' w' inv
            have hX := inv.ext
            have q46 : a'.tmps.getD 46 undef = Value.int IntKind.i64 (I : Int) := inv.done 0 _ 46 rfl rfl rfl
            have q47 : a'.tmps.getD 47 undef = Value.int IntKind.i64 (j : Int) := inv.done 1 _ 47 rfl rfl rfl
            have q48 : a'.tmps.getD 48 undef = Value.bool false := inv.done 2 _ 48 rfl rfl rfl
            have q49 : a'.tmps.getD 49 undef = Value.bool false := inv.done 3 _ 49 rfl rfl rfl
            have q50 : a'.tmps.getD 50 undef = undef := inv.done 4 _ 50 rfl rfl rfl
            have q51 : a'.tmps.getD 51 undef = undef := inv.done 5 _ 51 rfl rfl rfl
            have q52 : a'.tmps.getD 52 undef = undef := inv.done 6 _ 52 rfl rfl rfl
            have q53 : a'.tmps.getD 53 undef = undef := inv.done 7 _ 53 rfl rfl rfl
            have q54 : a'.tmps.getD 54 undef = undef := inv.done 8 _ 54 rfl rfl rfl
            have q55 : a'.tmps.getD 55 undef = undef := inv.done 9 _ 55 rfl rfl rfl
            have q56 : a'.tmps.getD 56 undef = undef := inv.done 10 _ 56 rfl rfl rfl
            have q57 : a'.tmps.getD 57 undef = undef := inv.done 11 _ 57 rfl rfl rfl
            have q58 : a'.tmps.getD 58 undef = undef := inv.done 12 _ 58 rfl rfl rfl
            have q59 : a'.tmps.getD 59 undef = Value.bool false := inv.done 13 _ 59 rfl rfl rfl
            clear inv
            simp only [List.filterMap_cons, List.filterMap_nil, Par.putAll, Act.put, List.setIfInBounds_toArray, List.set_cons_succ, List.set_cons_zero, q46, q47, q48, q49, q50, q51, q52, q53, q54, q55, q56, q57, q58, q59]
            clear q46 q47 q48 q49 q50 q51 q52 q53 q54 q55 q56 q57 q58 q59
            clear a'
            have HF2 := hid (HF.out.trans (Ext.fr hX))
            have HR2 := hid (RA.ext hX HR.out)
            clear hX HF HR
            have HF := HF2
            have HR := HR2
            clear HF2 HR2
            have HO2 := hid (HO.out.symm.trans (scanDown_stop (fun x => ltU d[a]! x) d _ j hji))
            clear hcmp
            go_wp2
            go_meet
            case rel => exact ⟨j, hj1, hj2, rfl, HR, HO2, HF⟩
          · obtain ⟨q, hq⟩ : ∃ q, q + 1 = j := ⟨j - 1, by omega⟩
            have hwj : IntKind.i64.wrap ((j : Int) - 1) = (q : Int) := i64v _ (by omega) (by omega)
            have hjn : j < n := by omega
            have hjn2 : (j : Int) < n := by omega
            obtain ⟨zj, Hzj, HCzj⟩ := cellV (B := B) (g := g) (n := n) (cap := cap) d j (by omega)
            obtain ⟨za, Hza, HCza⟩ := cellV (B := B) (g := g) (n := n) (cap := cap) d a (by omega)
            obtain ⟨b0, Hb0⟩ : ∃ b, Hid (ltU za zj = b) := ⟨_, hid rfl⟩
            have HIN : Hid (scanDown (fun x => ltU d[a]! x) d I j = if b0 then scanDown (fun x => ltU d[a]! x) d I q else j) := hid (by rw [scanDown_go (fun x => ltU d[a]! x) d _ j q hq hji]; simp only [Hzj.out, Hza.out, Hb0.out])
            have HQ := hid hq
            clear hq
            go_wp2_with fail
            refine Par.wp_region_par (l := [_, _, _, _, _, _, _, _, _, _, _, _, _, _]) rfl Ext (Par.VL [Par.EQ (Value.int IntKind.i64 (I : Int)), Par.EQ (Value.int IntKind.i64 (j : Int)), Par.EQ (Value.bool true), Par.EQ (Value.bool true), Par.EQ (Value.slice (some ⟨g, 0, none⟩) n cap), Par.EQ (Value.int IntKind.i64 (a : Int)), Par.EQ (Value.pointer (some ⟨g, a, none⟩)), Par.EQ (uv za), Par.EQ (Value.slice (some ⟨g, 0, none⟩) n cap), Par.EQ (Value.int IntKind.i64 (j : Int)), Par.EQ (Value.pointer (some ⟨g, j, none⟩)), Par.EQ (uv zj), Par.EQ (Value.bool b0), Par.EQ (Value.bool b0)]) (by kernel_rfl) Ext.refl (fun _ _ _ h1 h2 => Ext.trans h1 h2) (Ext.draw _) (Par.VL_stab ?_) ?_ ?_
            · simp only [List.forall_mem_cons, List.not_mem_nil, false_implies, implies_true, and_true]
              refine ⟨fun _ _ _ _ h => h, fun _ _ _ _ h => h, fun _ _ _ _ h => h, fun _ _ _ _ h => h, fun _ _ _ _ h => h, fun _ _ _ _ h => h, fun _ _ _ _ h => h, fun _ _ _ _ h => h, fun _ _ _ _ h => h, fun _ _ _ _ h => h, fun _ _ _ _ h => h, fun _ _ _ _ h => h, fun _ _ _ _ h => h, fun _ _ _ _ h => h⟩
            · refine ⟨⟨fun _ _ => trivial, fun ρ w' hX hG hk => ?_⟩, ?_⟩
              · exact Par.val_of_run rfl ⟨Ext.refl _, hk.1⟩
              refine ⟨⟨fun _ _ => trivial, fun ρ w' hX hG hk => ?_⟩, ?_⟩
              · exact Par.val_of_run rfl ⟨Ext.refl _, hk.1⟩
              refine ⟨⟨fun _ _ => trivial, fun ρ w' hX hG hk => ?_⟩, ?_⟩
              · obtain ⟨k0, k1, -⟩ := hk
                have e0 : ρ (.tmp 46) = Value.int IntKind.i64 (I : Int) := k0
                have e1 : ρ (.tmp 47) = Value.int IntKind.i64 (j : Int) := k1
                clear k0 k1
                refine Par.val_k fun K hK => ?_
                unfold Par.val
                (go_simp; exact hK _ _ ⟨Ext.refl _, rfl⟩)
              refine ⟨⟨fun _ _ => trivial, fun ρ w' hX hG hk => ?_⟩, ?_⟩
              · exact Par.val_of_run rfl ⟨Ext.refl _, hk.1⟩
              refine ⟨⟨fun _ _ u hu => .inl hu, fun ρ w' hX hG hk => ?_⟩, ?_⟩
              · exact Par.val_of_run rfl ⟨Ext.refl _, hk.1⟩
              refine ⟨⟨fun _ _ u hu => .inl hu, fun ρ w' hX hG hk => ?_⟩, ?_⟩
              · exact Par.val_of_run rfl ⟨Ext.refl _, hk.1⟩
              refine ⟨⟨fun _ _ u hu => .inl hu, fun ρ w' hX hG hk => ?_⟩, ?_⟩
              · obtain ⟨k0, k1, -⟩ := hk
                have e0 : ρ (.tmp 50) = Value.slice (some ⟨g, 0, none⟩) n cap := k0
                have e1 : ρ (.tmp 51) = Value.int IntKind.i64 (a : Int) := k1
                clear k0 k1
                refine Par.val_k fun K hK => ?_
                unfold Par.val
                (go_simp; exact hK _ _ ⟨Ext.refl _, rfl⟩)
              refine ⟨⟨fun _ _ u hu => .inl hu, fun ρ w' hX hG hk => ?_⟩, ?_⟩
              · obtain ⟨k0, -⟩ := hk
                have e0 : ρ (.tmp 52) = Value.pointer (some ⟨g, a, none⟩) := k0
                clear k0
                refine Par.val_k fun K hK => ?_
                unfold Par.val
                (have cc := HCza.out _ (RA.ext hX HR.out); go_simp; exact hK _ _ ⟨Ext.refl _, rfl⟩)
              refine ⟨⟨fun _ _ u hu => .inl hu, fun ρ w' hX hG hk => ?_⟩, ?_⟩
              · exact Par.val_of_run rfl ⟨Ext.refl _, hk.1⟩
              refine ⟨⟨fun _ _ u hu => .inl hu, fun ρ w' hX hG hk => ?_⟩, ?_⟩
              · exact Par.val_of_run rfl ⟨Ext.refl _, hk.1⟩
              refine ⟨⟨fun _ _ u hu => .inl hu, fun ρ w' hX hG hk => ?_⟩, ?_⟩
              · obtain ⟨k0, k1, -⟩ := hk
                have e0 : ρ (.tmp 54) = Value.slice (some ⟨g, 0, none⟩) n cap := k0
                have e1 : ρ (.tmp 55) = Value.int IntKind.i64 (j : Int) := k1
                clear k0 k1
                refine Par.val_k fun K hK => ?_
                unfold Par.val
                (go_simp; exact hK _ _ ⟨Ext.refl _, rfl⟩)
              refine ⟨⟨fun _ _ u hu => .inl hu, fun ρ w' hX hG hk => ?_⟩, ?_⟩
              · obtain ⟨k0, -⟩ := hk
                have e0 : ρ (.tmp 56) = Value.pointer (some ⟨g, j, none⟩) := k0
                clear k0
                refine Par.val_k fun K hK => ?_
                unfold Par.val
                (have cc := HCzj.out _ (RA.ext hX HR.out); go_simp; exact hK _ _ ⟨Ext.refl _, rfl⟩)
              refine ⟨⟨fun _ _ u hu => .inl hu, fun ρ w' hX hG hk => ?_⟩, ?_⟩
              · obtain ⟨k0, k1, k2, -⟩ := hk
                have e0 := k0
                have e1 : ρ (.tmp 53) = uv za := k1
                have e2 : ρ (.tmp 57) = uv zj := k2
                clear k0 k1 k2
                refine Par.val_k fun K hK => ?_
                unfold Par.val
                refine Par.val_call Tryd.func46 (by kernel_rfl) rfl e0 ?_
                simp only [List.map_toArray, List.map_cons, List.map_nil, e1, e2]
                refine (lessU_any za zj _).mono ?_
                rintro e w2 ⟨rfl, rfl⟩
                exact ⟨_, rfl, hK _ _ ⟨Ext.refl _, (congrArg Value.bool Hb0.out)⟩⟩
              refine ⟨⟨fun _ _ => trivial, fun ρ w' hX hG hk => ?_⟩, ?_⟩
              · obtain ⟨k0, k1, k2, -⟩ := hk
                have e0 : ρ (.tmp 49) = Value.bool true := k0
                have e1 : ρ (.tmp 58) = Value.bool b0 := k1
                have e2 : ρ (Operand.const (Value.bool false)) = (Value.bool false) := k2
                clear k0 k1 k2
                refine Par.val_k fun K hK => ?_
                unfold Par.val
                (go_simp; exact hK _ _ ⟨Ext.refl _, rfl⟩)
              trivial
            intro a' w' inv
            have hX := inv.ext
            have q46 : a'.tmps.getD 46 undef = Value.int IntKind.i64 (I : Int) := inv.done 0 _ 46 rfl rfl rfl
            have q47 : a'.tmps.getD 47 undef = Value.int IntKind.i64 (j : Int) := inv.done 1 _ 47 rfl rfl rfl
            have q48 : a'.tmps.getD 48 undef = Value.bool true := inv.done 2 _ 48 rfl rfl rfl
            have q49 : a'.tmps.getD 49 undef = Value.bool true := inv.done 3 _ 49 rfl rfl rfl
            have q50 : a'.tmps.getD 50 undef = Value.slice (some ⟨g, 0, none⟩) n cap := inv.done 4 _ 50 rfl rfl rfl
            have q51 : a'.tmps.getD 51 undef = Value.int IntKind.i64 (a : Int) := inv.done 5 _ 51 rfl rfl rfl
            have q52 : a'.tmps.getD 52 undef = Value.pointer (some ⟨g, a, none⟩) := inv.done 6 _ 52 rfl rfl rfl
            have q53 : a'.tmps.getD 53 undef = uv za := inv.done 7 _ 53 rfl rfl rfl
            have q54 : a'.tmps.getD 54 undef = Value.slice (some ⟨g, 0, none⟩) n cap := inv.done 8 _ 54 rfl rfl rfl
            have q55 : a'.tmps.getD 55 undef = Value.int IntKind.i64 (j : Int) := inv.done 9 _ 55 rfl rfl rfl
            have q56 : a'.tmps.getD 56 undef = Value.pointer (some ⟨g, j, none⟩) := inv.done 10 _ 56 rfl rfl rfl
            have q57 : a'.tmps.getD 57 undef = uv zj := inv.done 11 _ 57 rfl rfl rfl
            have q58 : a'.tmps.getD 58 undef = Value.bool b0 := inv.done 12 _ 58 rfl rfl rfl
            have q59 : a'.tmps.getD 59 undef = Value.bool b0 := inv.done 13 _ 59 rfl rfl rfl
            clear inv
            simp only [List.filterMap_cons, List.filterMap_nil, Par.putAll, Act.put, List.setIfInBounds_toArray, List.set_cons_succ, List.set_cons_zero, q46, q47, q48, q49, q50, q51, q52, q53, q54, q55, q56, q57, q58, q59]
            clear q46 q47 q48 q49 q50 q51 q52 q53 q54 q55 q56 q57 q58 q59
            clear a'
            have HF2 := hid (HF.out.trans (Ext.fr hX))
            have HR2 := hid (RA.ext hX HR.out)
            clear hX HF HR
            have HF := HF2
            have HR := HR2
            clear HF2 HR2
            cases b0
            case false =>
              have HO2 : Hid (scanDown (fun x => ltU d[a]! x) d I j0 = j) := hid (by have := HO.out; rw [HIN.out] at this; simpa using this.symm)
              go_wp2
              go_meet
              case rel => exact ⟨j, hj1, hj2, rfl, HR, HO2, HF⟩
            case true =>
              have HO2 : Hid (scanDown (fun x => ltU d[a]! x) d I q = scanDown (fun x => ltU d[a]! x) d I j0) := hid (by have := HO.out; rw [HIN.out] at this; simpa using this)
              go_wp2
              go_roundw
              case rel => exact ⟨q, by have := HQ.out; omega, by have := HQ.out; omega, by first | rfl | go_num, HR, HO2, HF⟩
              case measure => simp [intOf] <;> (have := HQ.out; omega)
      case rest =>
        clear HR HF
        obtain ⟨J, hJ1, hJ2, rfl, HR, HJ, HF⟩ := hcut
        have HEQ := hid (partEqLoop_unf d a i0 j0 HI.out HJ.out)
        have HGR : Hid (i0 ≤ I) := hid (by rw [← HI.out]; exact scanUp_ge _ _ _ _)
        clear HI HJ
        rcases Nat.lt_or_ge J I with hlt | hge
        · have HPP : Hid (D = (I, d)) := hid (by rw [← HL.out, HEQ.out, if_pos hlt])
          go_wp2
          go_returns
          exact ⟨by rw [HPP.out]; rfl, by rw [HPP.out]; exact HR.out, HF.out⟩
        · have hIn : I < n := by omega
          have hIn2 : (I : Int) < n := by omega
          have hJn : J < n := by omega
          have hJn2 : (J : Int) < n := by omega
          have hcmp : (J < I) = False := by simp; omega
          obtain ⟨J2, hJ2e⟩ : ∃ J2, J2 + 1 = J := ⟨J - 1, by omega⟩
          have hwI : IntKind.i64.wrap ((I : Int) + 1) = ((I + 1 : Nat) : Int) := i64v _ (by omega) (by omega)
          have hwJ : IntKind.i64.wrap ((J : Int) - 1) = (J2 : Int) := i64v _ (by omega) (by omega)
          have hJ2a : a ≤ J2 := by omega
          have hJ2b : J2 < b := by omega
          have hI1b : I + 1 ≤ b := by omega
          have hgrow : i0 ≤ I := HGR.out
          obtain ⟨zI, HzI, HCzI⟩ := cellV (B := B) (g := g) (n := n) (cap := cap) d I (by omega)
          obtain ⟨zJ, HzJ, HCzJ⟩ := cellV (B := B) (g := g) (n := n) (cap := cap) d J (by omega)
          have HPP : Hid (partEqLoop ltU a (I + 1) J2 (swp d I J) = D) := hid (by rw [← HL.out, HEQ.out, if_neg (by omega), show J - 1 = J2 by omega])
          clear hJ2e
          go_wp2_with fail
          refine ParE.wp_region_e (l := [_, _, _, _, _, _, _, _, _, _, _, _, _, _, _, _]) rfl (Rg.Ch [13, 15] [] (SwV _ B g n cap I J zI zJ d)) (ParC.VC [ParC.EQ (Value.slice (some ⟨g, 0, none⟩) n cap), ParC.EQ (Value.int IntKind.i64 (I : Int)), ParC.EQ (Value.slice (some ⟨g, 0, none⟩) n cap), ParC.EQ (Value.int IntKind.i64 (J : Int)), ParC.EQ (Value.slice (some ⟨g, 0, none⟩) n cap), ParC.EQ (Value.int IntKind.i64 (J : Int)), ParC.EQ (Value.pointer (some ⟨g, J, none⟩)), ParC.EQ (uv zJ), ParC.EQ (Value.slice (some ⟨g, 0, none⟩) n cap), ParC.EQ (Value.int IntKind.i64 (I : Int)), ParC.EQ (Value.pointer (some ⟨g, I, none⟩)), ParC.EQ (uv zI), ParC.EQ (Value.pointer (some ⟨g, I, none⟩)), fun _ => True, ParC.EQ (Value.pointer (some ⟨g, J, none⟩)), fun _ => True]) (by kernel_rfl) (by kernel_rfl) (Rg.Ch.start ⟨fun _ => Ext.draw _, trivial⟩) ?_ ?_
          · refine ⟨fun L ρ w' hR hC hL hd hk => ?_, ?_⟩
            · exact Par.val_of_run rfl ⟨hR.other (by decide), hk.1⟩
            refine ⟨fun L ρ w' hR hC hL hd hk => ?_, ?_⟩
            · exact Par.val_of_run rfl ⟨hR.other (by decide), hk.1⟩
            refine ⟨fun L ρ w' hR hC hL hd hk => ?_, ?_⟩
            · exact Par.val_of_run rfl ⟨hR.other (by decide), hk.1⟩
            refine ⟨fun L ρ w' hR hC hL hd hk => ?_, ?_⟩
            · exact Par.val_of_run rfl ⟨hR.other (by decide), hk.1⟩
            refine ⟨fun L ρ w' hR hC hL hd hk => ?_, ?_⟩
            · exact Par.val_of_run rfl ⟨hR.other (by decide), hk.1⟩
            refine ⟨fun L ρ w' hR hC hL hd hk => ?_, ?_⟩
            · exact Par.val_of_run rfl ⟨hR.other (by decide), hk.1⟩
            refine ⟨fun L ρ w' hR hC hL hd hk => ?_, ?_⟩
            · obtain ⟨k0, k1, -⟩ := hk
              have e0 : ρ (.tmp 69) = Value.slice (some ⟨g, 0, none⟩) n cap := k0
              have e1 : ρ (.tmp 70) = Value.int IntKind.i64 (J : Int) := k1
              clear k0 k1
              refine Par.val_k fun K hK => ?_
              unfold Par.val
              (go_simp; exact hK _ _ ⟨hR.other (by decide), rfl⟩)
            refine ⟨fun L ρ w' hR hC hL hd hk => ?_, ?_⟩
            · obtain ⟨k0, -⟩ := hk
              have e0 : ρ (.tmp 71) = Value.pointer (some ⟨g, J, none⟩) := k0
              clear k0
              refine Par.val_k fun K hK => ?_
              unfold Par.val
              (obtain ⟨ii, hii, hq⟩ := hR.some 0 rfl (hC.notyet 13 7 hL (by kernel_rfl)); have cc := HCzJ.out _ (RA.ext (hq.1 (by omega)) HR.out); go_simp; exact hK _ _ ⟨hR.other (by decide), rfl⟩)
            refine ⟨fun L ρ w' hR hC hL hd hk => ?_, ?_⟩
            · exact Par.val_of_run rfl ⟨hR.other (by decide), hk.1⟩
            refine ⟨fun L ρ w' hR hC hL hd hk => ?_, ?_⟩
            · exact Par.val_of_run rfl ⟨hR.other (by decide), hk.1⟩
            refine ⟨fun L ρ w' hR hC hL hd hk => ?_, ?_⟩
            · obtain ⟨k0, k1, -⟩ := hk
              have e0 : ρ (.tmp 73) = Value.slice (some ⟨g, 0, none⟩) n cap := k0
              have e1 : ρ (.tmp 74) = Value.int IntKind.i64 (I : Int) := k1
              clear k0 k1
              refine Par.val_k fun K hK => ?_
              unfold Par.val
              (go_simp; exact hK _ _ ⟨hR.other (by decide), rfl⟩)
            refine ⟨fun L ρ w' hR hC hL hd hk => ?_, ?_⟩
            · obtain ⟨k0, -⟩ := hk
              have e0 : ρ (.tmp 75) = Value.pointer (some ⟨g, I, none⟩) := k0
              clear k0
              refine Par.val_k fun K hK => ?_
              unfold Par.val
              (obtain ⟨ii, hii, hq⟩ := hR.some 0 rfl (hC.notyet 13 11 hL (by kernel_rfl)); have cc := HCzI.out _ (RA.ext (hq.1 (by omega)) HR.out); go_simp; exact hK _ _ ⟨hR.other (by decide), rfl⟩)
            refine ⟨fun L ρ w' hR hC hL hd hk => ?_, ?_⟩
            · obtain ⟨k0, k1, -⟩ := hk
              have e0 : ρ (.tmp 65) = Value.slice (some ⟨g, 0, none⟩) n cap := k0
              have e1 : ρ (.tmp 66) = Value.int IntKind.i64 (I : Int) := k1
              clear k0 k1
              refine Par.val_k fun K hK => ?_
              unfold Par.val
              (go_simp; exact hK _ _ ⟨hR.other (by decide), rfl⟩)
            refine ⟨fun L ρ w' hR hC hL hd hk => ?_, ?_⟩
            · obtain ⟨k0, k1, -⟩ := hk
              have e0 : ρ (.tmp 77) = Value.pointer (some ⟨g, I, none⟩) := k0
              have e1 : ρ (.tmp 72) = uv zJ := k1
              clear k0 k1
              refine Par.val_k fun K hK => ?_
              unfold Par.val
              (obtain ⟨hq, hs⟩ := hR.go 0 rfl hL (.inl rfl) (by decide); have hx := hq.1 (by decide); have hrow := RA.ext hx HR.out; obtain ⟨cc, ff⟩ := hrow.at (j := I) (by omega); obtain ⟨hset, hfs⟩ := hrow.set I zJ; have HSET := hid hset; have HFS := hid hfs; clear hset hfs hrow; go_simp; exact hK _ _ ⟨hs none _ _ ⟨fun h => absurd h (by decide), HSET.out, (Ext.fr hx).trans HFS.out⟩, trivial⟩)
            refine ⟨fun L ρ w' hR hC hL hd hk => ?_, ?_⟩
            · obtain ⟨k0, k1, -⟩ := hk
              have e0 : ρ (.tmp 67) = Value.slice (some ⟨g, 0, none⟩) n cap := k0
              have e1 : ρ (.tmp 68) = Value.int IntKind.i64 (J : Int) := k1
              clear k0 k1
              refine Par.val_k fun K hK => ?_
              unfold Par.val
              (go_simp; exact hK _ _ ⟨hR.other (by decide), rfl⟩)
            refine ⟨fun L ρ w' hR hC hL hd hk => ?_, ?_⟩
            · obtain ⟨k0, k1, -⟩ := hk
              have e0 : ρ (.tmp 78) = Value.pointer (some ⟨g, J, none⟩) := k0
              have e1 : ρ (.tmp 76) = uv zI := k1
              clear k0 k1
              refine Par.val_k fun K hK => ?_
              unfold Par.val
              (obtain ⟨hq, hs⟩ := hR.go 1 rfl hL (.inr ⟨13, rfl, hC.before 13 (i := 15) rfl hd (by kernel_rfl)⟩) (by decide); obtain ⟨hrow, hfr⟩ := hq.2; obtain ⟨cc, ff⟩ := hrow.at (j := J) (by omega); obtain ⟨hset, hfs⟩ := hrow.set J zI; have HSET := hid hset; have HFS := hid hfs; have HFR := hid hfr; clear hset hfs hrow hfr; go_simp; exact hK _ _ ⟨hs none _ _ ⟨fun h => absurd h (by decide), HSET.out, HFR.out.trans HFS.out⟩, trivial⟩)
            trivial
          intro a' w' inv hR
          have q65 : a'.tmps.getD 65 undef = Value.slice (some ⟨g, 0, none⟩) n cap := inv.done 0 _ 65 rfl rfl rfl
          have q66 : a'.tmps.getD 66 undef = Value.int IntKind.i64 (I : Int) := inv.done 1 _ 66 rfl rfl rfl
          have q67 : a'.tmps.getD 67 undef = Value.slice (some ⟨g, 0, none⟩) n cap := inv.done 2 _ 67 rfl rfl rfl
          have q68 : a'.tmps.getD 68 undef = Value.int IntKind.i64 (J : Int) := inv.done 3 _ 68 rfl rfl rfl
          have q69 : a'.tmps.getD 69 undef = Value.slice (some ⟨g, 0, none⟩) n cap := inv.done 4 _ 69 rfl rfl rfl
          have q70 : a'.tmps.getD 70 undef = Value.int IntKind.i64 (J : Int) := inv.done 5 _ 70 rfl rfl rfl
          have q71 : a'.tmps.getD 71 undef = Value.pointer (some ⟨g, J, none⟩) := inv.done 6 _ 71 rfl rfl rfl
          have q72 : a'.tmps.getD 72 undef = uv zJ := inv.done 7 _ 72 rfl rfl rfl
          have q73 : a'.tmps.getD 73 undef = Value.slice (some ⟨g, 0, none⟩) n cap := inv.done 8 _ 73 rfl rfl rfl
          have q74 : a'.tmps.getD 74 undef = Value.int IntKind.i64 (I : Int) := inv.done 9 _ 74 rfl rfl rfl
          have q75 : a'.tmps.getD 75 undef = Value.pointer (some ⟨g, I, none⟩) := inv.done 10 _ 75 rfl rfl rfl
          have q76 : a'.tmps.getD 76 undef = uv zI := inv.done 11 _ 76 rfl rfl rfl
          have q77 : a'.tmps.getD 77 undef = Value.pointer (some ⟨g, I, none⟩) := inv.done 12 _ 77 rfl rfl rfl
          have q78 : a'.tmps.getD 78 undef = Value.pointer (some ⟨g, J, none⟩) := inv.done 14 _ 78 rfl rfl rfl
          clear inv
          simp only [List.filterMap_cons, List.filterMap_nil, Par.putAll, Act.put, List.setIfInBounds_toArray, List.set_cons_succ, List.set_cons_zero, q65, q66, q67, q68, q69, q70, q71, q72, q73, q74, q75, q76, q77, q78]
          clear q65 q66 q67 q68 q69 q70 q71 q72 q73 q74 q75 q76 q77 q78
          obtain ⟨-, hrd, hf⟩ := Rg.Ch.fin hR (by decide) 2 rfl; have HRD := hid hrd; have HF4 := hid hf; clear hrd hf hR
          try clear a'
          have HR3 := hid (RA.swp HzI HzJ HRD.out)
          have HF3 := hid (HF.out.trans HF4.out)
          clear HRD HF4 HR HF
          have HR := HR3
          have HF := HF3
          clear HR3 HF3
          go_wp2
          go_roundw
          case rel => exact ⟨I + 1, J2, swp d I J, by omega, hI1b, hJ2a, hJ2b, by first | rfl | go_num, by first | rfl | go_num, HR, HPP, HF⟩
          case measure => simp [intOf] <;> omega
end Go.Proofs.YtpbmbjdiilnaeaaDoor
