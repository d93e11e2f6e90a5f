/- partition of a part of a row of numbers. -/
import Derived.Test.YtpbmbjdiilnaeaaDoorSrtV
import Derived.Sort.LotC
import Derived.Deep.CutBlock
set_option linter.unusedSimpArgs false
set_option linter.unusedVariables false
namespace Go.Proofs.YtpbmbjdiilnaeaaDoor
open Go Go.RowKit Go.Tum Go.ChangeMaps Go.Sort
open Go.ParB (upd Lof)
open Go.ParE (putS slotsR slots Closed)

theorem scanUp_stop (p : UInt64 → Bool) (d : Array UInt64) (j i : Nat) (h : j < i) : scanUp p d j i = i := by
  rw [scanUp, if_neg]
  simp; omega
theorem scanUp_go (p : UInt64 → Bool) (d : Array UInt64) (j i : Nat) (h : i ≤ j) : scanUp p d j i = if p d[i]! then scanUp p d j (i + 1) else i := by
  rw [scanUp]
  have : decide (i ≤ j) = true := by simpa using h
  simp only [this, Bool.true_and]
theorem scanDown_stop (p : UInt64 → Bool) (d : Array UInt64) (i j : Nat) (h : j < i) : scanDown p d i j = j := by
  cases j with
  | zero => rfl
  | succ j => rw [scanDown, if_neg]; simp; omega
theorem scanDown_go (p : UInt64 → Bool) (d : Array UInt64) (i j q : Nat) (hq : q + 1 = j) (h : i ≤ j) : scanDown p d i j = if p d[j]! then scanDown p d i q else j := by
  subst hq
  rw [scanDown]
  have : decide (i ≤ q + 1) = true := by simpa using h
  simp only [this, Bool.true_and]

theorem part_unf (d : Array UInt64) (a b p : Nat) {e : Array UInt64} (he : e = swp d a p) (b1 I J : Nat) (hb : b1 + 1 = b) (hI : scanUp (fun x => ltU x e[a]!) e b1 (a + 1) = I) (hJ : scanDown (fun x => !ltU x e[a]!) e I b1 = J) :
    partition ltU d a b p = if I > J then (J, true, swp e J a) else ((partLoop ltU a (I + 1) (J - 1) (swp e I J)).1, false, swp (partLoop ltU a (I + 1) (J - 1) (swp e I J)).2 (partLoop ltU a (I + 1) (J - 1) (swp e I J)).1 a) := by
  subst he
  unfold partition
  rw [show b - 1 = b1 by omega]
  simp only [hI, hJ]
theorem partLoop_unf (d : Array UInt64) (a i j : Nat) {I J : Nat} (hI : scanUp (fun x => ltU x d[a]!) d j i = I) (hJ : scanDown (fun x => !ltU x d[a]!) d I j = J) :
    partLoop ltU a i j d = if I > J then (J, d) else partLoop ltU a (I + 1) (J - 1) (swp d I J) := by
  rw [partLoop_eq]
  simp only [hI, hJ]
def mb (x : Nat) (y : Bool) : Value := .tuple #[.int .i64 (x : Int), .bool y]
set_option maxRecDepth 100000 in
set_option maxHeartbeats 4000000 in
theorem partV_any {B : Nat} {w : World} (g n cap a b p : Nat) (d0 : Array UInt64) (h : RA w B g n cap d0) (hap : a ≤ p) (hpb : p < b) (hbn : b ≤ n) (hbig : n ≤ 4611686018427387903) :
    Calls Tryd.prog 48 #[.slice (some ⟨g, 0, none⟩) n cap, .int .i64 (a : Int), .int .i64 (b : Int), .int .i64 (p : Int)] w fun e w' =>
      e = .returned (mb (partition ltU d0 a b p).1 (partition ltU d0 a b p).2.1) ∧ RA w' B g n cap (partition ltU d0 a b p).2.2 ∧ Fr [g] w w' := by
  obtain ⟨D, hD⟩ : ∃ D, partition ltU d0 a b p = D := ⟨_, rfl⟩
  rw [hD]
  have HD := hid hD
  have HR := hid h
  have HF : Hid (Fr [g] w w) := hid (Fr.refl _ _)
  obtain ⟨hcap1, hcap2⟩ := h.bound
  clear h hD
  obtain ⟨b1, hb1⟩ : ∃ b1, b1 + 1 = b := ⟨b - 1, by omega⟩
  have hwa : IntKind.i64.wrap ((a : Int) + 1) = ((a + 1 : Nat) : Int) := i64v _ (by omega) (by omega)
  have hwb : IntKind.i64.wrap ((b : Int) - 1) = (b1 : Int) := i64v _ (by omega) (by omega)
  have HB := hid hb1
  have hb1n : b1 < n := by omega
  have hab1 : a ≤ b1 := by omega
  have hb1b : b1 < b := by omega
  have han : a < n := by omega
  have han2 : (a : Int) < n := by omega
  have hpn : p < n := by omega
  have hpn2 : (p : Int) < n := by omega
  clear hb1
  obtain ⟨za, Hza, HCza⟩ := cellV (B := B) (g := g) (n := n) (cap := cap) d0 a (by omega)
  obtain ⟨zp, Hzp, HCzp⟩ := cellV (B := B) (g := g) (n := n) (cap := cap) d0 p (by omega)
  go_enter Tryd.func48, Tryd.ntmps48
  go_wp2_with fail
  refine ParE.wp_region_e (l := [_, _, _, _, _, _, _, _, _, _, _, _, _, _, _, _]) rfl (Rg.Ch [13, 15] [] (SwV _ B g n cap a p za zp d0)) (ParC.VC [ParC.EQ (Value.slice (some ⟨g, 0, none⟩) n cap), ParC.EQ (Value.int IntKind.i64 (a : Int)), ParC.EQ (Value.slice (some ⟨g, 0, none⟩) n cap), ParC.EQ (Value.int IntKind.i64 (p : Int)), ParC.EQ (Value.slice (some ⟨g, 0, none⟩) n cap), ParC.EQ (Value.int IntKind.i64 (p : Int)), ParC.EQ (Value.pointer (some ⟨g, p, none⟩)), ParC.EQ (uv zp), ParC.EQ (Value.slice (some ⟨g, 0, none⟩) n cap), ParC.EQ (Value.int IntKind.i64 (a : Int)), ParC.EQ (Value.pointer (some ⟨g, a, none⟩)), ParC.EQ (uv za), ParC.EQ (Value.pointer (some ⟨g, a, none⟩)), fun _ => True, ParC.EQ (Value.pointer (some ⟨g, p, none⟩)), fun _ => True]) (by kernel_rfl) (by kernel_rfl) (Rg.Ch.start ⟨fun _ => Ext.draw _, trivial⟩) ?_ ?_
  · refine ⟨fun L ρ w' hR hC hL hd hk => ?_, ?_⟩
    · exact Par.val_of_run rfl ⟨hR.other (by decide), hk.1⟩
    refine ⟨fun L ρ w' hR hC hL hd hk => ?_, ?_⟩
    · exact Par.val_of_run rfl ⟨hR.other (by decide), hk.1⟩
    refine ⟨fun L ρ w' hR hC hL hd hk => ?_, ?_⟩
    · exact Par.val_of_run rfl ⟨hR.other (by decide), hk.1⟩
    refine ⟨fun L ρ w' hR hC hL hd hk => ?_, ?_⟩
    · exact Par.val_of_run rfl ⟨hR.other (by decide), hk.1⟩
    refine ⟨fun L ρ w' hR hC hL hd hk => ?_, ?_⟩
    · exact Par.val_of_run rfl ⟨hR.other (by decide), hk.1⟩
    refine ⟨fun L ρ w' hR hC hL hd hk => ?_, ?_⟩
    · exact Par.val_of_run rfl ⟨hR.other (by decide), hk.1⟩
    refine ⟨fun L ρ w' hR hC hL hd hk => ?_, ?_⟩
    · obtain ⟨k0, k1, -⟩ := hk
      have e0 : ρ (.tmp 16) = Value.slice (some ⟨g, 0, none⟩) n cap := k0
      have e1 : ρ (.tmp 17) = Value.int IntKind.i64 (p : Int) := k1
      clear k0 k1
      refine Par.val_k fun K hK => ?_
      unfold Par.val
      (go_simp; exact hK _ _ ⟨hR.other (by decide), rfl⟩)
    refine ⟨fun L ρ w' hR hC hL hd hk => ?_, ?_⟩
    · obtain ⟨k0, -⟩ := hk
      have e0 : ρ (.tmp 18) = Value.pointer (some ⟨g, p, none⟩) := k0
      clear k0
      refine Par.val_k fun K hK => ?_
      unfold Par.val
      (obtain ⟨ii, hii, hq⟩ := hR.some 0 rfl (hC.notyet 13 7 hL (by kernel_rfl)); have cc := HCzp.out _ (RA.ext (hq.1 (by omega)) HR.out); go_simp; exact hK _ _ ⟨hR.other (by decide), rfl⟩)
    refine ⟨fun L ρ w' hR hC hL hd hk => ?_, ?_⟩
    · exact Par.val_of_run rfl ⟨hR.other (by decide), hk.1⟩
    refine ⟨fun L ρ w' hR hC hL hd hk => ?_, ?_⟩
    · exact Par.val_of_run rfl ⟨hR.other (by decide), hk.1⟩
    refine ⟨fun L ρ w' hR hC hL hd hk => ?_, ?_⟩
    · obtain ⟨k0, k1, -⟩ := hk
      have e0 : ρ (.tmp 20) = Value.slice (some ⟨g, 0, none⟩) n cap := k0
      have e1 : ρ (.tmp 21) = Value.int IntKind.i64 (a : Int) := k1
      clear k0 k1
      refine Par.val_k fun K hK => ?_
      unfold Par.val
      (go_simp; exact hK _ _ ⟨hR.other (by decide), rfl⟩)
    refine ⟨fun L ρ w' hR hC hL hd hk => ?_, ?_⟩
    · obtain ⟨k0, -⟩ := hk
      have e0 : ρ (.tmp 22) = Value.pointer (some ⟨g, a, none⟩) := k0
      clear k0
      refine Par.val_k fun K hK => ?_
      unfold Par.val
      (obtain ⟨ii, hii, hq⟩ := hR.some 0 rfl (hC.notyet 13 11 hL (by kernel_rfl)); have cc := HCza.out _ (RA.ext (hq.1 (by omega)) HR.out); go_simp; exact hK _ _ ⟨hR.other (by decide), rfl⟩)
    refine ⟨fun L ρ w' hR hC hL hd hk => ?_, ?_⟩
    · obtain ⟨k0, k1, -⟩ := hk
      have e0 : ρ (.tmp 12) = Value.slice (some ⟨g, 0, none⟩) n cap := k0
      have e1 : ρ (.tmp 13) = Value.int IntKind.i64 (a : Int) := k1
      clear k0 k1
      refine Par.val_k fun K hK => ?_
      unfold Par.val
      (go_simp; exact hK _ _ ⟨hR.other (by decide), rfl⟩)
    refine ⟨fun L ρ w' hR hC hL hd hk => ?_, ?_⟩
    · obtain ⟨k0, k1, -⟩ := hk
      have e0 : ρ (.tmp 24) = Value.pointer (some ⟨g, a, none⟩) := k0
      have e1 : ρ (.tmp 19) = uv zp := k1
      clear k0 k1
      refine Par.val_k fun K hK => ?_
      unfold Par.val
      (obtain ⟨hq, hs⟩ := hR.go 0 rfl hL (.inl rfl) (by decide); have hx := hq.1 (by decide); have hrow := RA.ext hx HR.out; obtain ⟨cc, ff⟩ := hrow.at (j := a) (by omega); obtain ⟨hset, hfs⟩ := hrow.set a zp; have HSET := hid hset; have HFS := hid hfs; clear hset hfs hrow; go_simp; exact hK _ _ ⟨hs none _ _ ⟨fun h => absurd h (by decide), HSET.out, (Ext.fr hx).trans HFS.out⟩, trivial⟩)
    refine ⟨fun L ρ w' hR hC hL hd hk => ?_, ?_⟩
    · obtain ⟨k0, k1, -⟩ := hk
      have e0 : ρ (.tmp 14) = Value.slice (some ⟨g, 0, none⟩) n cap := k0
      have e1 : ρ (.tmp 15) = Value.int IntKind.i64 (p : Int) := k1
      clear k0 k1
      refine Par.val_k fun K hK => ?_
      unfold Par.val
      (go_simp; exact hK _ _ ⟨hR.other (by decide), rfl⟩)
    refine ⟨fun L ρ w' hR hC hL hd hk => ?_, ?_⟩
    · obtain ⟨k0, k1, -⟩ := hk
      have e0 : ρ (.tmp 25) = Value.pointer (some ⟨g, p, none⟩) := k0
      have e1 : ρ (.tmp 23) = uv za := k1
      clear k0 k1
      refine Par.val_k fun K hK => ?_
      unfold Par.val
      (obtain ⟨hq, hs⟩ := hR.go 1 rfl hL (.inr ⟨13, rfl, hC.before 13 (i := 15) rfl hd (by kernel_rfl)⟩) (by decide); obtain ⟨hrow, hfr⟩ := hq.2; obtain ⟨cc, ff⟩ := hrow.at (j := p) (by omega); obtain ⟨hset, hfs⟩ := hrow.set p za; have HSET := hid hset; have HFS := hid hfs; have HFR := hid hfr; clear hset hfs hrow hfr; go_simp; exact hK _ _ ⟨hs none _ _ ⟨fun h => absurd h (by decide), HSET.out, HFR.out.trans HFS.out⟩, trivial⟩)
    trivial
  intro a' w' inv hR
  have q12 : a'.tmps.getD 12 undef = Value.slice (some ⟨g, 0, none⟩) n cap := inv.done 0 _ 12 rfl rfl rfl
  have q13 : a'.tmps.getD 13 undef = Value.int IntKind.i64 (a : Int) := inv.done 1 _ 13 rfl rfl rfl
  have q14 : a'.tmps.getD 14 undef = Value.slice (some ⟨g, 0, none⟩) n cap := inv.done 2 _ 14 rfl rfl rfl
  have q15 : a'.tmps.getD 15 undef = Value.int IntKind.i64 (p : Int) := inv.done 3 _ 15 rfl rfl rfl
  have q16 : a'.tmps.getD 16 undef = Value.slice (some ⟨g, 0, none⟩) n cap := inv.done 4 _ 16 rfl rfl rfl
  have q17 : a'.tmps.getD 17 undef = Value.int IntKind.i64 (p : Int) := inv.done 5 _ 17 rfl rfl rfl
  have q18 : a'.tmps.getD 18 undef = Value.pointer (some ⟨g, p, none⟩) := inv.done 6 _ 18 rfl rfl rfl
  have q19 : a'.tmps.getD 19 undef = uv zp := inv.done 7 _ 19 rfl rfl rfl
  have q20 : a'.tmps.getD 20 undef = Value.slice (some ⟨g, 0, none⟩) n cap := inv.done 8 _ 20 rfl rfl rfl
  have q21 : a'.tmps.getD 21 undef = Value.int IntKind.i64 (a : Int) := inv.done 9 _ 21 rfl rfl rfl
  have q22 : a'.tmps.getD 22 undef = Value.pointer (some ⟨g, a, none⟩) := inv.done 10 _ 22 rfl rfl rfl
  have q23 : a'.tmps.getD 23 undef = uv za := inv.done 11 _ 23 rfl rfl rfl
  have q24 : a'.tmps.getD 24 undef = Value.pointer (some ⟨g, a, none⟩) := inv.done 12 _ 24 rfl rfl rfl
  have q25 : a'.tmps.getD 25 undef = Value.pointer (some ⟨g, p, none⟩) := inv.done 14 _ 25 rfl rfl rfl
  clear inv
  simp only [List.filterMap_cons, List.filterMap_nil, Par.putAll, Act.put, List.setIfInBounds_toArray, List.set_cons_succ, List.set_cons_zero, q12, q13, q14, q15, q16, q17, q18, q19, q20, q21, q22, q23, q24, q25]
  clear q12 q13 q14 q15 q16 q17 q18 q19 q20 q21 q22 q23 q24 q25
  obtain ⟨-, hrd, hf⟩ := Rg.Ch.fin hR (by decide) 2 rfl; have HRD := hid hrd; have HF4 := hid hf; clear hrd hf hR
  try clear a'
  have HR3 := hid (RA.swp Hza Hzp HRD.out)
  have HF3 := hid (HF.out.trans HF4.out)
  clear HRD HF4 HR HF
  have HR := HR3
  have HF := HF3
  clear HR3 HF3
  obtain ⟨d, he⟩ : ∃ e, e = swp d0 a p := ⟨_, rfl⟩
  rw [← he] at HR
  have HU2 := hid (part_unf d0 a b p he)
  clear Hza Hzp HCza HCzp he
  go_upto_block 0 with fail
  go_cut [10] from 30 to 45 (fun iv wx => ∃ i : Nat, a + 1 ≤ i ∧ i ≤ b ∧ iv = .int .i64 (i : Int) ∧ Hid (RA wx B g n cap d) ∧ Hid (scanUp (fun x => ltU x d[a]!) d b1 (a + 1) = i) ∧ Hid (Fr [g] w wx))
  case first =>
    go_wp2_with fail
    go_loopw [10] (fun iv wr => ∃ i : Nat, a + 1 ≤ i ∧ i ≤ b ∧ iv = .int .i64 (i : Int) ∧ Hid (RA wr B g n cap d) ∧ Hid (scanUp (fun x => ltU x d[a]!) d b1 i = scanUp (fun x => ltU x d[a]!) d b1 (a + 1)) ∧ Hid (Fr [g] w wr)) (fun iv _ => n + 1 - (intOf iv).toNat)
    case atStart => exact ⟨(a + 1), by omega, by omega, by first | rfl | go_num, HR, hid rfl, HF⟩
    case round =>
      clear HR HF
      obtain ⟨i, hi1, hi2, rfl, HR, HO, HF⟩ := hrel
      rcases Nat.lt_or_ge b1 i with hji | hji
      · have hcmp : (i ≤ b1) = False := by simp; omega
        go_wp2_with fail
        refine Par.wp_region_par (l := [_, _, _, _, _, _, _, _, _, _, _, _, _, _]) rfl Ext (Par.VL [Par.EQ (Value.int IntKind.i64 (i : Int)), Par.EQ (Value.int IntKind.i64 (b1 : Int)), Par.EQ (Value.bool false), Par.EQ (Value.bool false), Par.EQ (undef), Par.EQ (undef), Par.EQ (undef), Par.EQ (undef), Par.EQ (undef), Par.EQ (undef), Par.EQ (undef), Par.EQ (undef), Par.EQ (undef), Par.EQ (Value.bool false)]) (by kernel_rfl) Ext.refl (fun _ _ _ h1 h2 => Ext.trans h1 h2) (Ext.draw _) (Par.VL_stab ?_) ?_ ?_
        · simp only [List.forall_mem_cons, List.not_mem_nil, false_implies, implies_true, and_true]
          refine ⟨fun _ _ _ _ h => h, fun _ _ _ _ h => h, fun _ _ _ _ h => h, fun _ _ _ _ h => h, fun _ _ _ _ h => h, fun _ _ _ _ h => h, fun _ _ _ _ h => h, fun _ _ _ _ h => h, fun _ _ _ _ h => h, fun _ _ _ _ h => h, fun _ _ _ _ h => h, fun _ _ _ _ h => h, fun _ _ _ _ h => h, fun _ _ _ _ h => h⟩
        · refine ⟨⟨fun _ _ => trivial, fun ρ w' hX hG hk => ?_⟩, ?_⟩
          · exact Par.val_of_run rfl ⟨Ext.refl _, hk.1⟩
          refine ⟨⟨fun _ _ => trivial, fun ρ w' hX hG hk => ?_⟩, ?_⟩
          · exact Par.val_of_run rfl ⟨Ext.refl _, hk.1⟩
          refine ⟨⟨fun _ _ => trivial, fun ρ w' hX hG hk => ?_⟩, ?_⟩
          · obtain ⟨k0, k1, -⟩ := hk
            have e0 : ρ (.tmp 30) = Value.int IntKind.i64 (i : Int) := k0
            have e1 : ρ (.tmp 31) = Value.int IntKind.i64 (b1 : Int) := k1
            clear k0 k1
            refine Par.val_k fun K hK => ?_
            unfold Par.val
            (go_simp; exact hK _ _ ⟨Ext.refl _, rfl⟩)
          refine ⟨⟨fun _ _ => trivial, fun ρ w' hX hG hk => ?_⟩, ?_⟩
          · exact Par.val_of_run rfl ⟨Ext.refl _, hk.1⟩
          refine ⟨⟨fun _ _ u hu => .inr rfl, fun ρ w' hX hG hk => ?_⟩, ?_⟩
          · cases hG
          refine ⟨⟨fun _ _ u hu => .inr rfl, fun ρ w' hX hG hk => ?_⟩, ?_⟩
          · cases hG
          refine ⟨⟨fun _ _ u hu => .inr rfl, fun ρ w' hX hG hk => ?_⟩, ?_⟩
          · cases hG
          refine ⟨⟨fun _ _ u hu => .inr rfl, fun ρ w' hX hG hk => ?_⟩, ?_⟩
          · cases hG
          refine ⟨⟨fun _ _ u hu => .inr rfl, fun ρ w' hX hG hk => ?_⟩, ?_⟩
          · cases hG
          refine ⟨⟨fun _ _ u hu => .inr rfl, fun ρ w' hX hG hk => ?_⟩, ?_⟩
          · cases hG
          refine ⟨⟨fun _ _ u hu => .inr rfl, fun ρ w' hX hG hk => ?_⟩, ?_⟩
          · cases hG
          refine ⟨⟨fun _ _ u hu => .inr rfl, fun ρ w' hX hG hk => ?_⟩, ?_⟩
          · cases hG
          refine ⟨⟨fun _ _ u hu => .inr rfl, fun ρ w' hX hG hk => ?_⟩, ?_⟩
          · cases hG
          refine ⟨⟨fun _ _ => trivial, fun ρ w' hX hG hk => ?_⟩, ?_⟩
          · obtain ⟨k0, k1, k2, -⟩ := hk
            have e0 : ρ (.tmp 33) = Value.bool false := k0
            have e1 : ρ (.tmp 42) = undef := k1
            have e2 : ρ (Operand.const (Value.bool false)) = (Value.bool false) := k2
            clear k0 k1 k2
            refine Par.val_k fun K hK => ?_
            unfold Par.val
            (go_simp; exact hK _ _ ⟨Ext.refl _, rfl⟩)
          trivial
        intro a' w' inv
        have hX := inv.ext
        have q30 : a'.tmps.getD 30 undef = Value.int IntKind.i64 (i : Int) := inv.done 0 _ 30 rfl rfl rfl
        have q31 : a'.tmps.getD 31 undef = Value.int IntKind.i64 (b1 : Int) := inv.done 1 _ 31 rfl rfl rfl
        have q32 : a'.tmps.getD 32 undef = Value.bool false := inv.done 2 _ 32 rfl rfl rfl
        have q33 : a'.tmps.getD 33 undef = Value.bool false := inv.done 3 _ 33 rfl rfl rfl
        have q34 : a'.tmps.getD 34 undef = undef := inv.done 4 _ 34 rfl rfl rfl
        have q35 : a'.tmps.getD 35 undef = undef := inv.done 5 _ 35 rfl rfl rfl
        have q36 : a'.tmps.getD 36 undef = undef := inv.done 6 _ 36 rfl rfl rfl
        have q37 : a'.tmps.getD 37 undef = undef := inv.done 7 _ 37 rfl rfl rfl
        have q38 : a'.tmps.getD 38 undef = undef := inv.done 8 _ 38 rfl rfl rfl
        have q39 : a'.tmps.getD 39 undef = undef := inv.done 9 _ 39 rfl rfl rfl
        have q40 : a'.tmps.getD 40 undef = undef := inv.done 10 _ 40 rfl rfl rfl
        have q41 : a'.tmps.getD 41 undef = undef := inv.done 11 _ 41 rfl rfl rfl
        have q42 : a'.tmps.getD 42 undef = undef := inv.done 12 _ 42 rfl rfl rfl
        have q43 : a'.tmps.getD 43 undef = Value.bool false := inv.done 13 _ 43 rfl rfl rfl
        clear inv
        simp only [List.filterMap_cons, List.filterMap_nil, Par.putAll, Act.put, List.setIfInBounds_toArray, List.set_cons_succ, List.set_cons_zero, q30, q31, q32, q33, q34, q35, q36, q37, q38, q39, q40, q41, q42, q43]
        clear q30 q31 q32 q33 q34 q35 q36 q37 q38 q39 q40 q41 q42 q43
        clear a'
        have HF2 := hid (HF.out.trans (Ext.fr hX))
        have HR2 := hid (RA.ext hX HR.out)
        clear hX HF HR
        have HF := HF2
        have HR := HR2
        clear HF2 HR2
        have HO2 := hid (HO.out.symm.trans (scanUp_stop (fun x => ltU x d[a]!) d _ i hji))
        clear hcmp
        go_wp2
        go_meet
        case rel => exact ⟨i, hi1, hi2, rfl, HR, HO2, HF⟩
      · have hwi : IntKind.i64.wrap ((i : Int) + 1) = ((i + 1 : Nat) : Int) := i64v _ (by omega) (by omega)
        have hin : i < n := by omega
        have hin2 : (i : Int) < n := by omega
        obtain ⟨zi, Hzi, HCzi⟩ := cellV (B := B) (g := g) (n := n) (cap := cap) d i (by omega)
        obtain ⟨za, Hza, HCza⟩ := cellV (B := B) (g := g) (n := n) (cap := cap) d a (by omega)
        obtain ⟨b0, Hb0⟩ : ∃ b, Hid (ltU zi za = b) := ⟨_, hid rfl⟩
        have HIN : Hid (scanUp (fun x => ltU x d[a]!) d b1 i = if b0 then scanUp (fun x => ltU x d[a]!) d b1 (i + 1) else i) := hid (by rw [scanUp_go (fun x => ltU x d[a]!) d _ i hji]; simp only [Hzi.out, Hza.out, Hb0.out])
        go_wp2_with fail
        refine Par.wp_region_par (l := [_, _, _, _, _, _, _, _, _, _, _, _, _, _]) rfl Ext (Par.VL [Par.EQ (Value.int IntKind.i64 (i : Int)), Par.EQ (Value.int IntKind.i64 (b1 : Int)), Par.EQ (Value.bool true), Par.EQ (Value.bool true), Par.EQ (Value.slice (some ⟨g, 0, none⟩) n cap), Par.EQ (Value.int IntKind.i64 (i : Int)), Par.EQ (Value.pointer (some ⟨g, i, none⟩)), Par.EQ (uv zi), Par.EQ (Value.slice (some ⟨g, 0, none⟩) n cap), Par.EQ (Value.int IntKind.i64 (a : Int)), Par.EQ (Value.pointer (some ⟨g, a, none⟩)), Par.EQ (uv za), Par.EQ (Value.bool b0), Par.EQ (Value.bool b0)]) (by kernel_rfl) Ext.refl (fun _ _ _ h1 h2 => Ext.trans h1 h2) (Ext.draw _) (Par.VL_stab ?_) ?_ ?_
        · simp only [List.forall_mem_cons, List.not_mem_nil, false_implies, implies_true, and_true]
          refine ⟨fun _ _ _ _ h => h, fun _ _ _ _ h => h, fun _ _ _ _ h => h, fun _ _ _ _ h => h, fun _ _ _ _ h => h, fun _ _ _ _ h => h, fun _ _ _ _ h => h, fun _ _ _ _ h => h, fun _ _ _ _ h => h, fun _ _ _ _ h => h, fun _ _ _ _ h => h, fun _ _ _ _ h => h, fun _ _ _ _ h => h, fun _ _ _ _ h => h⟩
        · refine ⟨⟨fun _ _ => trivial, fun ρ w' hX hG hk => ?_⟩, ?_⟩
          · exact Par.val_of_run rfl ⟨Ext.refl _, hk.1⟩
          refine ⟨⟨fun _ _ => trivial, fun ρ w' hX hG hk => ?_⟩, ?_⟩
          · exact Par.val_of_run rfl ⟨Ext.refl _, hk.1⟩
          refine ⟨⟨fun _ _ => trivial, fun ρ w' hX hG hk => ?_⟩, ?_⟩
          · obtain ⟨k0, k1, -⟩ := hk
            have e0 : ρ (.tmp 30) = Value.int IntKind.i64 (i : Int) := k0
            have e1 : ρ (.tmp 31) = Value.int IntKind.i64 (b1 : Int) := k1
            clear k0 k1
            refine Par.val_k fun K hK => ?_
            unfold Par.val
            (go_simp; exact hK _ _ ⟨Ext.refl _, rfl⟩)
          refine ⟨⟨fun _ _ => trivial, fun ρ w' hX hG hk => ?_⟩, ?_⟩
          · exact Par.val_of_run rfl ⟨Ext.refl _, hk.1⟩
          refine ⟨⟨fun _ _ u hu => .inl hu, fun ρ w' hX hG hk => ?_⟩, ?_⟩
          · exact Par.val_of_run rfl ⟨Ext.refl _, hk.1⟩
          refine ⟨⟨fun _ _ u hu => .inl hu, fun ρ w' hX hG hk => ?_⟩, ?_⟩
          · exact Par.val_of_run rfl ⟨Ext.refl _, hk.1⟩
          refine ⟨⟨fun _ _ u hu => .inl hu, fun ρ w' hX hG hk => ?_⟩, ?_⟩
          · obtain ⟨k0, k1, -⟩ := hk
            have e0 : ρ (.tmp 34) = Value.slice (some ⟨g, 0, none⟩) n cap := k0
            have e1 : ρ (.tmp 35) = Value.int IntKind.i64 (i : Int) := k1
            clear k0 k1
            refine Par.val_k fun K hK => ?_
            unfold Par.val
            (go_simp; exact hK _ _ ⟨Ext.refl _, rfl⟩)
          refine ⟨⟨fun _ _ u hu => .inl hu, fun ρ w' hX hG hk => ?_⟩, ?_⟩
          · obtain ⟨k0, -⟩ := hk
            have e0 : ρ (.tmp 36) = Value.pointer (some ⟨g, i, none⟩) := k0
            clear k0
            refine Par.val_k fun K hK => ?_
            unfold Par.val
            (have cc := HCzi.out _ (RA.ext hX HR.out); go_simp; exact hK _ _ ⟨Ext.refl _, rfl⟩)
          refine ⟨⟨fun _ _ u hu => .inl hu, fun ρ w' hX hG hk => ?_⟩, ?_⟩
          · exact Par.val_of_run rfl ⟨Ext.refl _, hk.1⟩
          refine ⟨⟨fun _ _ u hu => .inl hu, fun ρ w' hX hG hk => ?_⟩, ?_⟩
          · exact Par.val_of_run rfl ⟨Ext.refl _, hk.1⟩
          refine ⟨⟨fun _ _ u hu => .inl hu, fun ρ w' hX hG hk => ?_⟩, ?_⟩
          · obtain ⟨k0, k1, -⟩ := hk
            have e0 : ρ (.tmp 38) = Value.slice (some ⟨g, 0, none⟩) n cap := k0
            have e1 : ρ (.tmp 39) = Value.int IntKind.i64 (a : Int) := k1
            clear k0 k1
            refine Par.val_k fun K hK => ?_
            unfold Par.val
            (go_simp; exact hK _ _ ⟨Ext.refl _, rfl⟩)
          refine ⟨⟨fun _ _ u hu => .inl hu, fun ρ w' hX hG hk => ?_⟩, ?_⟩
          · obtain ⟨k0, -⟩ := hk
            have e0 : ρ (.tmp 40) = Value.pointer (some ⟨g, a, none⟩) := k0
            clear k0
            refine Par.val_k fun K hK => ?_
            unfold Par.val
            (have cc := HCza.out _ (RA.ext hX HR.out); go_simp; exact hK _ _ ⟨Ext.refl _, rfl⟩)
          refine ⟨⟨fun _ _ u hu => .inl hu, fun ρ w' hX hG hk => ?_⟩, ?_⟩
          · obtain ⟨k0, k1, k2, -⟩ := hk
            have e0 := k0
            have e1 : ρ (.tmp 37) = uv zi := k1
            have e2 : ρ (.tmp 41) = uv za := k2
            clear k0 k1 k2
            refine Par.val_k fun K hK => ?_
            unfold Par.val
            refine Par.val_call Tryd.func46 (by kernel_rfl) rfl e0 ?_
            simp only [List.map_toArray, List.map_cons, List.map_nil, e1, e2]
            refine (lessU_any zi za _).mono ?_
            rintro e w2 ⟨rfl, rfl⟩
            exact ⟨_, rfl, hK _ _ ⟨Ext.refl _, (congrArg Value.bool Hb0.out)⟩⟩
          refine ⟨⟨fun _ _ => trivial, fun ρ w' hX hG hk => ?_⟩, ?_⟩
          · obtain ⟨k0, k1, k2, -⟩ := hk
            have e0 : ρ (.tmp 33) = Value.bool true := k0
            have e1 : ρ (.tmp 42) = Value.bool b0 := k1
            have e2 : ρ (Operand.const (Value.bool false)) = (Value.bool false) := k2
            clear k0 k1 k2
            refine Par.val_k fun K hK => ?_
            unfold Par.val
            (go_simp; exact hK _ _ ⟨Ext.refl _, rfl⟩)
          trivial
        intro a' w' inv
        have hX := inv.ext
        have q30 : a'.tmps.getD 30 undef = Value.int IntKind.i64 (i : Int) := inv.done 0 _ 30 rfl rfl rfl
        have q31 : a'.tmps.getD 31 undef = Value.int IntKind.i64 (b1 : Int) := inv.done 1 _ 31 rfl rfl rfl
        have q32 : a'.tmps.getD 32 undef = Value.bool true := inv.done 2 _ 32 rfl rfl rfl
        have q33 : a'.tmps.getD 33 undef = Value.bool true := inv.done 3 _ 33 rfl rfl rfl
        have q34 : a'.tmps.getD 34 undef = Value.slice (some ⟨g, 0, none⟩) n cap := inv.done 4 _ 34 rfl rfl rfl
        have q35 : a'.tmps.getD 35 undef = Value.int IntKind.i64 (i : Int) := inv.done 5 _ 35 rfl rfl rfl
        have q36 : a'.tmps.getD 36 undef = Value.pointer (some ⟨g, i, none⟩) := inv.done 6 _ 36 rfl rfl rfl
        have q37 : a'.tmps.getD 37 undef = uv zi := inv.done 7 _ 37 rfl rfl rfl
        have q38 : a'.tmps.getD 38 undef = Value.slice (some ⟨g, 0, none⟩) n cap := inv.done 8 _ 38 rfl rfl rfl
        have q39 : a'.tmps.getD 39 undef = Value.int IntKind.i64 (a : Int) := inv.done 9 _ 39 rfl rfl rfl
        have q40 : a'.tmps.getD 40 undef = Value.pointer (some ⟨g, a, none⟩) := inv.done 10 _ 40 rfl rfl rfl
        have q41 : a'.tmps.getD 41 undef = uv za := inv.done 11 _ 41 rfl rfl rfl
        have q42 : a'.tmps.getD 42 undef = Value.bool b0 := inv.done 12 _ 42 rfl rfl rfl
        have q43 : a'.tmps.getD 43 undef = Value.bool b0 := inv.done 13 _ 43 rfl rfl rfl
        clear inv
        simp only [List.filterMap_cons, List.filterMap_nil, Par.putAll, Act.put, List.setIfInBounds_toArray, List.set_cons_succ, List.set_cons_zero, q30, q31, q32, q33, q34, q35, q36, q37, q38, q39, q40, q41, q42, q43]
        clear q30 q31 q32 q33 q34 q35 q36 q37 q38 q39 q40 q41 q42 q43
        clear a'
        have HF2 := hid (HF.out.trans (Ext.fr hX))
        have HR2 := hid (RA.ext hX HR.out)
        clear hX HF HR
        have HF := HF2
        have HR := HR2
        clear HF2 HR2
        cases b0
        case false =>
          have HO2 : Hid (scanUp (fun x => ltU x d[a]!) d b1 (a + 1) = i) := hid (by have := HO.out; rw [HIN.out] at this; simpa using this.symm)
          go_wp2
          go_meet
          case rel => exact ⟨i, hi1, hi2, rfl, HR, HO2, HF⟩
        case true =>
          have HO2 : Hid (scanUp (fun x => ltU x d[a]!) d b1 (i + 1) = scanUp (fun x => ltU x d[a]!) d b1 (a + 1)) := hid (by have := HO.out; rw [HIN.out] at this; simpa using this)
          go_wp2
          go_roundw
          case rel => exact ⟨i + 1, by omega, by omega, by first | rfl | go_num, HR, HO2, HF⟩
          case measure => simp [intOf] <;> omega
  case rest =>
    clear HR HF
    obtain ⟨I, hI1, hI2, rfl, HR, HI, HF⟩ := hcut
    go_upto_block 2 with fail
    go_cut [11] from 46 to 62 (fun jv wx => ∃ j : Nat, a ≤ j ∧ j < b ∧ jv = .int .i64 (j : Int) ∧ Hid (RA wx B g n cap d) ∧ Hid (scanDown (fun x => !ltU x d[a]!) d I b1 = j) ∧ Hid (Fr [g] w wx))
    case first =>
      go_wp2_with fail
      go_loopw [11] (fun jv wr => ∃ j : Nat, a ≤ j ∧ j < b ∧ jv = .int .i64 (j : Int) ∧ Hid (RA wr B g n cap d) ∧ Hid (scanDown (fun x => !ltU x d[a]!) d I j = scanDown (fun x => !ltU x d[a]!) d I b1) ∧ Hid (Fr [g] w wr)) (fun jv _ => (intOf jv).toNat)
      case atStart => exact ⟨b1, by omega, by omega, by first | rfl | go_num, HR, hid rfl, HF⟩
      case round =>
        clear HR HF
        obtain ⟨j, hj1, hj2, rfl, HR, HO, HF⟩ := hrel
        rcases Nat.lt_or_ge j I with hji | hji
        · have hcmp : (I ≤ j) = False := by simp; omega
          go_wp2_with fail
          refine Par.wp_region_par (l := [_, _, _, _, _, _, _, _, _, _, _, _, _, _, _]) rfl Ext (Par.VL [Par.EQ (Value.int IntKind.i64 (I : Int)), Par.EQ (Value.int IntKind.i64 (j : Int)), Par.EQ (Value.bool false), Par.EQ (Value.bool false), Par.EQ (undef), Par.EQ (undef), Par.EQ (undef), Par.EQ (undef), Par.EQ (undef), Par.EQ (undef), Par.EQ (undef), Par.EQ (undef), Par.EQ (undef), Par.EQ (undef), Par.EQ (Value.bool false)]) (by kernel_rfl) Ext.refl (fun _ _ _ h1 h2 => Ext.trans h1 h2) (Ext.draw _) (Par.VL_stab ?_) ?_ ?_
          · simp only [List.forall_mem_cons, List.not_mem_nil, false_implies, implies_true, and_true]
            refine ⟨fun _ _ _ _ h => h, fun _ _ _ _ h => h, fun _ _ _ _ h => h, fun _ _ _ _ h => h, fun _ _ _ _ h => h, fun _ _ _ _ h => h, fun _ _ _ _ h => h, fun _ _ _ _ h => h, fun _ _ _ _ h => h, fun _ _ _ _ h => h, fun _ _ _ _ h => h, fun _ _ _ _ h => h, fun _ _ _ _ h => h, fun _ _ _ _ h => h, fun _ _ _ _ h => h⟩
          · refine ⟨⟨fun _ _ => trivial, fun ρ w' hX hG hk => ?_⟩, ?_⟩
            · exact Par.val_of_run rfl ⟨Ext.refl _, hk.1⟩
            refine ⟨⟨fun _ _ => trivial, fun ρ w' hX hG hk => ?_⟩, ?_⟩
            · exact Par.val_of_run rfl ⟨Ext.refl _, hk.1⟩
            refine ⟨⟨fun _ _ => trivial, fun ρ w' hX hG hk => ?_⟩, ?_⟩
            · obtain ⟨k0, k1, -⟩ := hk
              have e0 : ρ (.tmp 46) = Value.int IntKind.i64 (I : Int) := k0
              have e1 : ρ (.tmp 47) = Value.int IntKind.i64 (j : Int) := k1
              clear k0 k1
              refine Par.val_k fun K hK => ?_
              unfold Par.val
              (go_simp; exact hK _ _ ⟨Ext.refl _, rfl⟩)
            refine ⟨⟨fun _ _ => trivial, fun ρ w' hX hG hk => ?_⟩, ?_⟩
            · exact Par.val_of_run rfl ⟨Ext.refl _, hk.1⟩
            refine ⟨⟨fun _ _ u hu => .inr rfl, fun ρ w' hX hG hk => ?_⟩, ?_⟩
            · cases hG
            refine ⟨⟨fun _ _ u hu => .inr rfl, fun ρ w' hX hG hk => ?_⟩, ?_⟩
            · cases hG
            refine ⟨⟨fun _ _ u hu => .inr rfl, fun ρ w' hX hG hk => ?_⟩, ?_⟩
            · cases hG
            refine ⟨⟨fun _ _ u hu => .inr rfl, fun ρ w' hX hG hk => ?_⟩, ?_⟩
            · cases hG
            refine ⟨⟨fun _ _ u hu => .inr rfl, fun ρ w' hX hG hk => ?_⟩, ?_⟩
            · cases hG
            refine ⟨⟨fun _ _ u hu => .inr rfl, fun ρ w' hX hG hk => ?_⟩, ?_⟩
            · cases hG
            refine ⟨⟨fun _ _ u hu => .inr rfl, fun ρ w' hX hG hk => ?_⟩, ?_⟩
            · cases hG
            refine ⟨⟨fun _ _ u hu => .inr rfl, fun ρ w' hX hG hk => ?_⟩, ?_⟩
            · cases hG
            refine ⟨⟨fun _ _ u hu => .inr rfl, fun ρ w' hX hG hk => ?_⟩, ?_⟩
            · cases hG
            refine ⟨⟨fun _ _ u hu => .inr rfl, fun ρ w' hX hG hk => ?_⟩, ?_⟩
            · cases hG
            refine ⟨⟨fun _ _ => trivial, fun ρ w' hX hG hk => ?_⟩, ?_⟩
            · obtain ⟨k0, k1, k2, -⟩ := hk
              have e0 : ρ (.tmp 49) = Value.bool false := k0
              have e1 : ρ (.tmp 59) = undef := k1
              have e2 : ρ (Operand.const (Value.bool false)) = (Value.bool false) := k2
              clear k0 k1 k2
              refine Par.val_k fun K hK => ?_
              unfold Par.val
              (go_simp; exact hK _ _ ⟨Ext.refl _, rfl⟩)
            trivial
          intro a' w' inv
          have hX := inv.ext
          have q46 : a'.tmps.getD 46 undef = Value.int IntKind.i64 (I : Int) := inv.done 0 _ 46 rfl rfl rfl
          have q47 : a'.tmps.getD 47 undef = Value.int IntKind.i64 (j : Int) := inv.done 1 _ 47 rfl rfl rfl
          have q48 : a'.tmps.getD 48 undef = Value.bool false := inv.done 2 _ 48 rfl rfl rfl
          have q49 : a'.tmps.getD 49 undef = Value.bool false := inv.done 3 _ 49 rfl rfl rfl
          have q50 : a'.tmps.getD 50 undef = undef := inv.done 4 _ 50 rfl rfl rfl
          have q51 : a'.tmps.getD 51 undef = undef := inv.done 5 _ 51 rfl rfl rfl
          have q52 : a'.tmps.getD 52 undef = undef := inv.done 6 _ 52 rfl rfl rfl
          have q53 : a'.tmps.getD 53 undef = undef := inv.done 7 _ 53 rfl rfl rfl
          have q54 : a'.tmps.getD 54 undef = undef := inv.done 8 _ 54 rfl rfl rfl
          have q55 : a'.tmps.getD 55 undef = undef := inv.done 9 _ 55 rfl rfl rfl
          have q56 : a'.tmps.getD 56 undef = undef := inv.done 10 _ 56 rfl rfl rfl
          have q57 : a'.tmps.getD 57 undef = undef := inv.done 11 _ 57 rfl rfl rfl
          have q58 : a'.tmps.getD 58 undef = undef := inv.done 12 _ 58 rfl rfl rfl
          have q59 : a'.tmps.getD 59 undef = undef := inv.done 13 _ 59 rfl rfl rfl
          have q60 : a'.tmps.getD 60 undef = Value.bool false := inv.done 14 _ 60 rfl rfl rfl
          clear inv
          simp only [List.filterMap_cons, List.filterMap_nil, Par.putAll, Act.put, List.setIfInBounds_toArray, List.set_cons_succ, List.set_cons_zero, q46, q47, q48, q49, q50, q51, q52, q53, q54, q55, q56, q57, q58, q59, q60]
          clear q46 q47 q48 q49 q50 q51 q52 q53 q54 q55 q56 q57 q58 q59 q60
          clear a'
          have HF2 := hid (HF.out.trans (Ext.fr hX))
          have HR2 := hid (RA.ext hX HR.out)
          clear hX HF HR
          have HF := HF2
          have HR := HR2
          clear HF2 HR2
          have HO2 := hid (HO.out.symm.trans (scanDown_stop (fun x => !ltU x d[a]!) d _ j hji))
          clear hcmp
          go_wp2
          go_meet
          case rel => exact ⟨j, hj1, hj2, rfl, HR, HO2, HF⟩
        · obtain ⟨q, hq⟩ : ∃ q, q + 1 = j := ⟨j - 1, by omega⟩
          have hwj : IntKind.i64.wrap ((j : Int) - 1) = (q : Int) := i64v _ (by omega) (by omega)
          have hjn : j < n := by omega
          have hjn2 : (j : Int) < n := by omega
          obtain ⟨zj, Hzj, HCzj⟩ := cellV (B := B) (g := g) (n := n) (cap := cap) d j (by omega)
          obtain ⟨za, Hza, HCza⟩ := cellV (B := B) (g := g) (n := n) (cap := cap) d a (by omega)
          obtain ⟨b0, Hb0⟩ : ∃ b, Hid (ltU zj za = b) := ⟨_, hid rfl⟩
          have HIN : Hid (scanDown (fun x => !ltU x d[a]!) d I j = if (!b0) then scanDown (fun x => !ltU x d[a]!) d I q else j) := hid (by rw [scanDown_go (fun x => !ltU x d[a]!) d _ j q hq hji]; simp only [Hzj.out, Hza.out, Hb0.out])
          have HQ := hid hq
          clear hq
          go_wp2_with fail
          refine Par.wp_region_par (l := [_, _, _, _, _, _, _, _, _, _, _, _, _, _, _]) rfl Ext (Par.VL [Par.EQ (Value.int IntKind.i64 (I : Int)), Par.EQ (Value.int IntKind.i64 (j : Int)), Par.EQ (Value.bool true), Par.EQ (Value.bool true), Par.EQ (Value.slice (some ⟨g, 0, none⟩) n cap), Par.EQ (Value.int IntKind.i64 (j : Int)), Par.EQ (Value.pointer (some ⟨g, j, none⟩)), Par.EQ (uv zj), Par.EQ (Value.slice (some ⟨g, 0, none⟩) n cap), Par.EQ (Value.int IntKind.i64 (a : Int)), Par.EQ (Value.pointer (some ⟨g, a, none⟩)), Par.EQ (uv za), Par.EQ (Value.bool b0), Par.EQ (Value.bool (!b0)), Par.EQ (Value.bool (!b0))]) (by kernel_rfl) Ext.refl (fun _ _ _ h1 h2 => Ext.trans h1 h2) (Ext.draw _) (Par.VL_stab ?_) ?_ ?_
          · simp only [List.forall_mem_cons, List.not_mem_nil, false_implies, implies_true, and_true]
            refine ⟨fun _ _ _ _ h => h, fun _ _ _ _ h => h, fun _ _ _ _ h => h, fun _ _ _ _ h => h, fun _ _ _ _ h => h, fun _ _ _ _ h => h, fun _ _ _ _ h => h, fun _ _ _ _ h => h, fun _ _ _ _ h => h, fun _ _ _ _ h => h, fun _ _ _ _ h => h, fun _ _ _ _ h => h, fun _ _ _ _ h => h, fun _ _ _ _ h => h, fun _ _ _ _ h => h⟩
          · refine ⟨⟨fun _ _ => trivial, fun ρ w' hX hG hk => ?_⟩, ?_⟩
            · exact Par.val_of_run rfl ⟨Ext.refl _, hk.1⟩
            refine ⟨⟨fun _ _ => trivial, fun ρ w' hX hG hk => ?_⟩, ?_⟩
            · exact Par.val_of_run rfl ⟨Ext.refl _, hk.1⟩
            refine ⟨⟨fun _ _ => trivial, fun ρ w' hX hG hk => ?_⟩, ?_⟩
            · obtain ⟨k0, k1, -⟩ := hk
              have e0 : ρ (.tmp 46) = Value.int IntKind.i64 (I : Int) := k0
              have e1 : ρ (.tmp 47) = Value.int IntKind.i64 (j : Int) := k1
              clear k0 k1
              refine Par.val_k fun K hK => ?_
              unfold Par.val
              (go_simp; exact hK _ _ ⟨Ext.refl _, rfl⟩)
            refine ⟨⟨fun _ _ => trivial, fun ρ w' hX hG hk => ?_⟩, ?_⟩
            · exact Par.val_of_run rfl ⟨Ext.refl _, hk.1⟩
            refine ⟨⟨fun _ _ u hu => .inl hu, fun ρ w' hX hG hk => ?_⟩, ?_⟩
            · exact Par.val_of_run rfl ⟨Ext.refl _, hk.1⟩
            refine ⟨⟨fun _ _ u hu => .inl hu, fun ρ w' hX hG hk => ?_⟩, ?_⟩
            · exact Par.val_of_run rfl ⟨Ext.refl _, hk.1⟩
            refine ⟨⟨fun _ _ u hu => .inl hu, fun ρ w' hX hG hk => ?_⟩, ?_⟩
            · obtain ⟨k0, k1, -⟩ := hk
              have e0 : ρ (.tmp 50) = Value.slice (some ⟨g, 0, none⟩) n cap := k0
              have e1 : ρ (.tmp 51) = Value.int IntKind.i64 (j : Int) := k1
              clear k0 k1
              refine Par.val_k fun K hK => ?_
              unfold Par.val
              (go_simp; exact hK _ _ ⟨Ext.refl _, rfl⟩)
            refine ⟨⟨fun _ _ u hu => .inl hu, fun ρ w' hX hG hk => ?_⟩, ?_⟩
            · obtain ⟨k0, -⟩ := hk
              have e0 : ρ (.tmp 52) = Value.pointer (some ⟨g, j, none⟩) := k0
              clear k0
              refine Par.val_k fun K hK => ?_
              unfold Par.val
              (have cc := HCzj.out _ (RA.ext hX HR.out); go_simp; exact hK _ _ ⟨Ext.refl _, rfl⟩)
            refine ⟨⟨fun _ _ u hu => .inl hu, fun ρ w' hX hG hk => ?_⟩, ?_⟩
            · exact Par.val_of_run rfl ⟨Ext.refl _, hk.1⟩
            refine ⟨⟨fun _ _ u hu => .inl hu, fun ρ w' hX hG hk => ?_⟩, ?_⟩
            · exact Par.val_of_run rfl ⟨Ext.refl _, hk.1⟩
            refine ⟨⟨fun _ _ u hu => .inl hu, fun ρ w' hX hG hk => ?_⟩, ?_⟩
            · obtain ⟨k0, k1, -⟩ := hk
              have e0 : ρ (.tmp 54) = Value.slice (some ⟨g, 0, none⟩) n cap := k0
              have e1 : ρ (.tmp 55) = Value.int IntKind.i64 (a : Int) := k1
              clear k0 k1
              refine Par.val_k fun K hK => ?_
              unfold Par.val
              (go_simp; exact hK _ _ ⟨Ext.refl _, rfl⟩)
            refine ⟨⟨fun _ _ u hu => .inl hu, fun ρ w' hX hG hk => ?_⟩, ?_⟩
            · obtain ⟨k0, -⟩ := hk
              have e0 : ρ (.tmp 56) = Value.pointer (some ⟨g, a, none⟩) := k0
              clear k0
              refine Par.val_k fun K hK => ?_
              unfold Par.val
              (have cc := HCza.out _ (RA.ext hX HR.out); go_simp; exact hK _ _ ⟨Ext.refl _, rfl⟩)
            refine ⟨⟨fun _ _ u hu => .inl hu, fun ρ w' hX hG hk => ?_⟩, ?_⟩
            · obtain ⟨k0, k1, k2, -⟩ := hk
              have e0 := k0
              have e1 : ρ (.tmp 53) = uv zj := k1
              have e2 : ρ (.tmp 57) = uv za := k2
              clear k0 k1 k2
              refine Par.val_k fun K hK => ?_
              unfold Par.val
              refine Par.val_call Tryd.func46 (by kernel_rfl) rfl e0 ?_
              simp only [List.map_toArray, List.map_cons, List.map_nil, e1, e2]
              refine (lessU_any zj za _).mono ?_
              rintro e w2 ⟨rfl, rfl⟩
              exact ⟨_, rfl, hK _ _ ⟨Ext.refl _, (congrArg Value.bool Hb0.out)⟩⟩
            refine ⟨⟨fun _ _ u hu => .inl hu, fun ρ w' hX hG hk => ?_⟩, ?_⟩
            · obtain ⟨k0, -⟩ := hk
              have e0 : ρ (.tmp 58) = Value.bool b0 := k0
              clear k0
              refine Par.val_k fun K hK => ?_
              unfold Par.val
              (go_simp; exact hK _ _ ⟨Ext.refl _, rfl⟩)
            refine ⟨⟨fun _ _ => trivial, fun ρ w' hX hG hk => ?_⟩, ?_⟩
            · obtain ⟨k0, k1, k2, -⟩ := hk
              have e0 : ρ (.tmp 49) = Value.bool true := k0
              have e1 : ρ (.tmp 59) = Value.bool (!b0) := k1
              have e2 : ρ (Operand.const (Value.bool false)) = (Value.bool false) := k2
              clear k0 k1 k2
              refine Par.val_k fun K hK => ?_
              unfold Par.val
              (go_simp; exact hK _ _ ⟨Ext.refl _, rfl⟩)
            trivial
          intro a' w' inv
          have hX := inv.ext
          have q46 : a'.tmps.getD 46 undef = Value.int IntKind.i64 (I : Int) := inv.done 0 _ 46 rfl rfl rfl
          have q47 : a'.tmps.getD 47 undef = Value.int IntKind.i64 (j : Int) := inv.done 1 _ 47 rfl rfl rfl
          have q48 : a'.tmps.getD 48 undef = Value.bool true := inv.done 2 _ 48 rfl rfl rfl
          have q49 : a'.tmps.getD 49 undef = Value.bool true := inv.done 3 _ 49 rfl rfl rfl
          have q50 : a'.tmps.getD 50 undef = Value.slice (some ⟨g, 0, none⟩) n cap := inv.done 4 _ 50 rfl rfl rfl
          have q51 : a'.tmps.getD 51 undef = Value.int IntKind.i64 (j : Int) := inv.done 5 _ 51 rfl rfl rfl
          have q52 : a'.tmps.getD 52 undef = Value.pointer (some ⟨g, j, none⟩) := inv.done 6 _ 52 rfl rfl rfl
          have q53 : a'.tmps.getD 53 undef = uv zj := inv.done 7 _ 53 rfl rfl rfl
          have q54 : a'.tmps.getD 54 undef = Value.slice (some ⟨g, 0, none⟩) n cap := inv.done 8 _ 54 rfl rfl rfl
          have q55 : a'.tmps.getD 55 undef = Value.int IntKind.i64 (a : Int) := inv.done 9 _ 55 rfl rfl rfl
          have q56 : a'.tmps.getD 56 undef = Value.pointer (some ⟨g, a, none⟩) := inv.done 10 _ 56 rfl rfl rfl
          have q57 : a'.tmps.getD 57 undef = uv za := inv.done 11 _ 57 rfl rfl rfl
          have q58 : a'.tmps.getD 58 undef = Value.bool b0 := inv.done 12 _ 58 rfl rfl rfl
          have q59 : a'.tmps.getD 59 undef = Value.bool (!b0) := inv.done 13 _ 59 rfl rfl rfl
          have q60 : a'.tmps.getD 60 undef = Value.bool (!b0) := inv.done 14 _ 60 rfl rfl rfl
          clear inv
          simp only [List.filterMap_cons, List.filterMap_nil, Par.putAll, Act.put, List.setIfInBounds_toArray, List.set_cons_succ, List.set_cons_zero, q46, q47, q48, q49, q50, q51, q52, q53, q54, q55, q56, q57, q58, q59, q60]
          clear q46 q47 q48 q49 q50 q51 q52 q53 q54 q55 q56 q57 q58 q59 q60
          clear a'
          have HF2 := hid (HF.out.trans (Ext.fr hX))
          have HR2 := hid (RA.ext hX HR.out)
          clear hX HF HR
          have HF := HF2
          have HR := HR2
          clear HF2 HR2
          cases b0
          case true =>
            have HO2 : Hid (scanDown (fun x => !ltU x d[a]!) d I b1 = j) := hid (by have := HO.out; rw [HIN.out] at this; simpa using this.symm)
            go_wp2
            go_meet
            case rel => exact ⟨j, hj1, hj2, rfl, HR, HO2, HF⟩
          case false =>
            have HO2 : Hid (scanDown (fun x => !ltU x d[a]!) d I q = scanDown (fun x => !ltU x d[a]!) d I b1) := hid (by have := HO.out; rw [HIN.out] at this; simpa using this)
            go_wp2
            go_roundw
            case rel => exact ⟨q, by have := HQ.out; omega, by have := HQ.out; omega, by first | rfl | go_num, HR, HO2, HF⟩
            case measure => simp [intOf] <;> (have := HQ.out; omega)
    case rest =>
      clear HR HF
      obtain ⟨J, hJ1, hJ2, rfl, HR, HJ, HF⟩ := hcut
      have HEQ := hid (HU2.out b1 I J HB.out HI.out HJ.out)
      clear HI HJ
      rcases Nat.lt_or_ge J I with hlt | hge
      · have hJn : J < n := by omega
        have hJn2 : (J : Int) < n := by omega
        obtain ⟨za, Hza, HCza⟩ := cellV (B := B) (g := g) (n := n) (cap := cap) d a (by omega)
        obtain ⟨zJ, HzJ, HCzJ⟩ := cellV (B := B) (g := g) (n := n) (cap := cap) d J (by omega)
        have HDD : Hid (D = (J, true, swp d J a)) := hid (by rw [← HD.out, HEQ.out, if_pos hlt])
        go_wp2_with fail
        refine ParE.wp_region_e (l := [_, _, _, _, _, _, _, _, _, _, _, _, _, _, _, _]) rfl (Rg.Ch [13, 15] [] (SwV _ B g n cap J a zJ za d)) (ParC.VC [ParC.EQ (Value.slice (some ⟨g, 0, none⟩) n cap), ParC.EQ (Value.int IntKind.i64 (J : Int)), ParC.EQ (Value.slice (some ⟨g, 0, none⟩) n cap), ParC.EQ (Value.int IntKind.i64 (a : Int)), ParC.EQ (Value.slice (some ⟨g, 0, none⟩) n cap), ParC.EQ (Value.int IntKind.i64 (a : Int)), ParC.EQ (Value.pointer (some ⟨g, a, none⟩)), ParC.EQ (uv za), ParC.EQ (Value.slice (some ⟨g, 0, none⟩) n cap), ParC.EQ (Value.int IntKind.i64 (J : Int)), ParC.EQ (Value.pointer (some ⟨g, J, none⟩)), ParC.EQ (uv zJ), ParC.EQ (Value.pointer (some ⟨g, J, none⟩)), fun _ => True, ParC.EQ (Value.pointer (some ⟨g, a, none⟩)), fun _ => True]) (by kernel_rfl) (by kernel_rfl) (Rg.Ch.start ⟨fun _ => Ext.draw _, trivial⟩) ?_ ?_
        · refine ⟨fun L ρ w' hR hC hL hd hk => ?_, ?_⟩
          · exact Par.val_of_run rfl ⟨hR.other (by decide), hk.1⟩
          refine ⟨fun L ρ w' hR hC hL hd hk => ?_, ?_⟩
          · exact Par.val_of_run rfl ⟨hR.other (by decide), hk.1⟩
          refine ⟨fun L ρ w' hR hC hL hd hk => ?_, ?_⟩
          · exact Par.val_of_run rfl ⟨hR.other (by decide), hk.1⟩
          refine ⟨fun L ρ w' hR hC hL hd hk => ?_, ?_⟩
          · exact Par.val_of_run rfl ⟨hR.other (by decide), hk.1⟩
          refine ⟨fun L ρ w' hR hC hL hd hk => ?_, ?_⟩
          · exact Par.val_of_run rfl ⟨hR.other (by decide), hk.1⟩
          refine ⟨fun L ρ w' hR hC hL hd hk => ?_, ?_⟩
          · exact Par.val_of_run rfl ⟨hR.other (by decide), hk.1⟩
          refine ⟨fun L ρ w' hR hC hL hd hk => ?_, ?_⟩
          · obtain ⟨k0, k1, -⟩ := hk
            have e0 : ρ (.tmp 70) = Value.slice (some ⟨g, 0, none⟩) n cap := k0
            have e1 : ρ (.tmp 71) = Value.int IntKind.i64 (a : Int) := k1
            clear k0 k1
            refine Par.val_k fun K hK => ?_
            unfold Par.val
            (go_simp; exact hK _ _ ⟨hR.other (by decide), rfl⟩)
          refine ⟨fun L ρ w' hR hC hL hd hk => ?_, ?_⟩
          · obtain ⟨k0, -⟩ := hk
            have e0 : ρ (.tmp 72) = Value.pointer (some ⟨g, a, none⟩) := k0
            clear k0
            refine Par.val_k fun K hK => ?_
            unfold Par.val
            (obtain ⟨ii, hii, hq⟩ := hR.some 0 rfl (hC.notyet 13 7 hL (by kernel_rfl)); have cc := HCza.out _ (RA.ext (hq.1 (by omega)) HR.out); go_simp; exact hK _ _ ⟨hR.other (by decide), rfl⟩)
          refine ⟨fun L ρ w' hR hC hL hd hk => ?_, ?_⟩
          · exact Par.val_of_run rfl ⟨hR.other (by decide), hk.1⟩
          refine ⟨fun L ρ w' hR hC hL hd hk => ?_, ?_⟩
          · exact Par.val_of_run rfl ⟨hR.other (by decide), hk.1⟩
          refine ⟨fun L ρ w' hR hC hL hd hk => ?_, ?_⟩
          · obtain ⟨k0, k1, -⟩ := hk
            have e0 : ρ (.tmp 74) = Value.slice (some ⟨g, 0, none⟩) n cap := k0
            have e1 : ρ (.tmp 75) = Value.int IntKind.i64 (J : Int) := k1
            clear k0 k1
            refine Par.val_k fun K hK => ?_
            unfold Par.val
            (go_simp; exact hK _ _ ⟨hR.other (by decide), rfl⟩)
          refine ⟨fun L ρ w' hR hC hL hd hk => ?_, ?_⟩
          · obtain ⟨k0, -⟩ := hk
            have e0 : ρ (.tmp 76) = Value.pointer (some ⟨g, J, none⟩) := k0
            clear k0
            refine Par.val_k fun K hK => ?_
            unfold Par.val
            (obtain ⟨ii, hii, hq⟩ := hR.some 0 rfl (hC.notyet 13 11 hL (by kernel_rfl)); have cc := HCzJ.out _ (RA.ext (hq.1 (by omega)) HR.out); go_simp; exact hK _ _ ⟨hR.other (by decide), rfl⟩)
          refine ⟨fun L ρ w' hR hC hL hd hk => ?_, ?_⟩
          · obtain ⟨k0, k1, -⟩ := hk
            have e0 : ρ (.tmp 66) = Value.slice (some ⟨g, 0, none⟩) n cap := k0
            have e1 : ρ (.tmp 67) = Value.int IntKind.i64 (J : Int) := k1
            clear k0 k1
            refine Par.val_k fun K hK => ?_
            unfold Par.val
            (go_simp; exact hK _ _ ⟨hR.other (by decide), rfl⟩)
          refine ⟨fun L ρ w' hR hC hL hd hk => ?_, ?_⟩
          · obtain ⟨k0, k1, -⟩ := hk
            have e0 : ρ (.tmp 78) = Value.pointer (some ⟨g, J, none⟩) := k0
            have e1 : ρ (.tmp 73) = uv za := k1
            clear k0 k1
            refine Par.val_k fun K hK => ?_
            unfold Par.val
            (obtain ⟨hq, hs⟩ := hR.go 0 rfl hL (.inl rfl) (by decide); have hx := hq.1 (by decide); have hrow := RA.ext hx HR.out; obtain ⟨cc, ff⟩ := hrow.at (j := J) (by omega); obtain ⟨hset, hfs⟩ := hrow.set J za; have HSET := hid hset; have HFS := hid hfs; clear hset hfs hrow; go_simp; exact hK _ _ ⟨hs none _ _ ⟨fun h => absurd h (by decide), HSET.out, (Ext.fr hx).trans HFS.out⟩, trivial⟩)
          refine ⟨fun L ρ w' hR hC hL hd hk => ?_, ?_⟩
          · obtain ⟨k0, k1, -⟩ := hk
            have e0 : ρ (.tmp 68) = Value.slice (some ⟨g, 0, none⟩) n cap := k0
            have e1 : ρ (.tmp 69) = Value.int IntKind.i64 (a : Int) := k1
            clear k0 k1
            refine Par.val_k fun K hK => ?_
            unfold Par.val
            (go_simp; exact hK _ _ ⟨hR.other (by decide), rfl⟩)
          refine ⟨fun L ρ w' hR hC hL hd hk => ?_, ?_⟩
          · obtain ⟨k0, k1, -⟩ := hk
            have e0 : ρ (.tmp 79) = Value.pointer (some ⟨g, a, none⟩) := k0
            have e1 : ρ (.tmp 77) = uv zJ := k1
            clear k0 k1
            refine Par.val_k fun K hK => ?_
            unfold Par.val
            (obtain ⟨hq, hs⟩ := hR.go 1 rfl hL (.inr ⟨13, rfl, hC.before 13 (i := 15) rfl hd (by kernel_rfl)⟩) (by decide); obtain ⟨hrow, hfr⟩ := hq.2; obtain ⟨cc, ff⟩ := hrow.at (j := a) (by omega); obtain ⟨hset, hfs⟩ := hrow.set a zJ; have HSET := hid hset; have HFS := hid hfs; have HFR := hid hfr; clear hset hfs hrow hfr; go_simp; exact hK _ _ ⟨hs none _ _ ⟨fun h => absurd h (by decide), HSET.out, HFR.out.trans HFS.out⟩, trivial⟩)
          trivial
        intro a' w' inv hR
        have q66 : a'.tmps.getD 66 undef = Value.slice (some ⟨g, 0, none⟩) n cap := inv.done 0 _ 66 rfl rfl rfl
        have q67 : a'.tmps.getD 67 undef = Value.int IntKind.i64 (J : Int) := inv.done 1 _ 67 rfl rfl rfl
        have q68 : a'.tmps.getD 68 undef = Value.slice (some ⟨g, 0, none⟩) n cap := inv.done 2 _ 68 rfl rfl rfl
        have q69 : a'.tmps.getD 69 undef = Value.int IntKind.i64 (a : Int) := inv.done 3 _ 69 rfl rfl rfl
        have q70 : a'.tmps.getD 70 undef = Value.slice (some ⟨g, 0, none⟩) n cap := inv.done 4 _ 70 rfl rfl rfl
        have q71 : a'.tmps.getD 71 undef = Value.int IntKind.i64 (a : Int) := inv.done 5 _ 71 rfl rfl rfl
        have q72 : a'.tmps.getD 72 undef = Value.pointer (some ⟨g, a, none⟩) := inv.done 6 _ 72 rfl rfl rfl
        have q73 : a'.tmps.getD 73 undef = uv za := inv.done 7 _ 73 rfl rfl rfl
        have q74 : a'.tmps.getD 74 undef = Value.slice (some ⟨g, 0, none⟩) n cap := inv.done 8 _ 74 rfl rfl rfl
        have q75 : a'.tmps.getD 75 undef = Value.int IntKind.i64 (J : Int) := inv.done 9 _ 75 rfl rfl rfl
        have q76 : a'.tmps.getD 76 undef = Value.pointer (some ⟨g, J, none⟩) := inv.done 10 _ 76 rfl rfl rfl
        have q77 : a'.tmps.getD 77 undef = uv zJ := inv.done 11 _ 77 rfl rfl rfl
        have q78 : a'.tmps.getD 78 undef = Value.pointer (some ⟨g, J, none⟩) := inv.done 12 _ 78 rfl rfl rfl
        have q79 : a'.tmps.getD 79 undef = Value.pointer (some ⟨g, a, none⟩) := inv.done 14 _ 79 rfl rfl rfl
        clear inv
        simp only [List.filterMap_cons, List.filterMap_nil, Par.putAll, Act.put, List.setIfInBounds_toArray, List.set_cons_succ, List.set_cons_zero, q66, q67, q68, q69, q70, q71, q72, q73, q74, q75, q76, q77, q78, q79]
        clear q66 q67 q68 q69 q70 q71 q72 q73 q74 q75 q76 q77 q78 q79
        obtain ⟨-, hrd, hf⟩ := Rg.Ch.fin hR (by decide) 2 rfl; have HRD := hid hrd; have HF4 := hid hf; clear hrd hf hR
        try clear a'
        have HR3 := hid (RA.swp HzJ Hza HRD.out)
        have HF3 := hid (HF.out.trans HF4.out)
        clear HRD HF4 HR HF
        have HR := HR3
        have HF := HF3
        clear HR3 HF3
        go_wp2
        go_returns
        exact ⟨by rw [HDD.out]; rfl, by rw [HDD.out]; exact HR.out, HF.out⟩
      · have hIn : I < n := by omega
        have hIn2 : (I : Int) < n := by omega
        have hJn : J < n := by omega
        have hJn2 : (J : Int) < n := by omega
        have hcmp : (J < I) = False := by simp; omega
        obtain ⟨J1, hJ1⟩ : ∃ J1, J1 + 1 = J := ⟨J - 1, by omega⟩
        have hwI : IntKind.i64.wrap ((I : Int) + 1) = ((I + 1 : Nat) : Int) := i64v _ (by omega) (by omega)
        have hwJ : IntKind.i64.wrap ((J : Int) - 1) = (J1 : Int) := i64v _ (by omega) (by omega)
        have hJ1a : a ≤ J1 := by omega
        have hJ1b : J1 < b := by omega
        have hI1b : I + 1 ≤ b := by omega
        obtain ⟨zI, HzI, HCzI⟩ := cellV (B := B) (g := g) (n := n) (cap := cap) d I (by omega)
        obtain ⟨zJ, HzJ, HCzJ⟩ := cellV (B := B) (g := g) (n := n) (cap := cap) d J (by omega)
        have HPL : Hid (D = ((partLoop ltU a (I + 1) J1 (swp d I J)).1, false, swp (partLoop ltU a (I + 1) J1 (swp d I J)).2 (partLoop ltU a (I + 1) J1 (swp d I J)).1 a)) := hid (by rw [← HD.out, HEQ.out, if_neg (by omega), show J - 1 = J1 by omega])
        have HJ1 := hid hJ1
        clear hJ1
        go_wp2_with fail
        refine ParE.wp_region_e (l := [_, _, _, _, _, _, _, _, _, _, _, _, _, _, _, _]) rfl (Rg.Ch [13, 15] [] (SwV _ B g n cap I J zI zJ d)) (ParC.VC [ParC.EQ (Value.slice (some ⟨g, 0, none⟩) n cap), ParC.EQ (Value.int IntKind.i64 (I : Int)), ParC.EQ (Value.slice (some ⟨g, 0, none⟩) n cap), ParC.EQ (Value.int IntKind.i64 (J : Int)), ParC.EQ (Value.slice (some ⟨g, 0, none⟩) n cap), ParC.EQ (Value.int IntKind.i64 (J : Int)), ParC.EQ (Value.pointer (some ⟨g, J, none⟩)), ParC.EQ (uv zJ), ParC.EQ (Value.slice (some ⟨g, 0, none⟩) n cap), ParC.EQ (Value.int IntKind.i64 (I : Int)), ParC.EQ (Value.pointer (some ⟨g, I, none⟩)), ParC.EQ (uv zI), ParC.EQ (Value.pointer (some ⟨g, I, none⟩)), fun _ => True, ParC.EQ (Value.pointer (some ⟨g, J, none⟩)), fun _ => True]) (by kernel_rfl) (by kernel_rfl) (Rg.Ch.start ⟨fun _ => Ext.draw _, trivial⟩) ?_ ?_
        · refine ⟨fun L ρ w' hR hC hL hd hk => ?_, ?_⟩
          · exact Par.val_of_run rfl ⟨hR.other (by decide), hk.1⟩
          refine ⟨fun L ρ w' hR hC hL hd hk => ?_, ?_⟩
          · exact Par.val_of_run rfl ⟨hR.other (by decide), hk.1⟩
          refine ⟨fun L ρ w' hR hC hL hd hk => ?_, ?_⟩
          · exact Par.val_of_run rfl ⟨hR.other (by decide), hk.1⟩
          refine ⟨fun L ρ w' hR hC hL hd hk => ?_, ?_⟩
          · exact Par.val_of_run rfl ⟨hR.other (by decide), hk.1⟩
          refine ⟨fun L ρ w' hR hC hL hd hk => ?_, ?_⟩
          · exact Par.val_of_run rfl ⟨hR.other (by decide), hk.1⟩
          refine ⟨fun L ρ w' hR hC hL hd hk => ?_, ?_⟩
          · exact Par.val_of_run rfl ⟨hR.other (by decide), hk.1⟩
          refine ⟨fun L ρ w' hR hC hL hd hk => ?_, ?_⟩
          · obtain ⟨k0, k1, -⟩ := hk
            have e0 : ρ (.tmp 85) = Value.slice (some ⟨g, 0, none⟩) n cap := k0
            have e1 : ρ (.tmp 86) = Value.int IntKind.i64 (J : Int) := k1
            clear k0 k1
            refine Par.val_k fun K hK => ?_
            unfold Par.val
            (go_simp; exact hK _ _ ⟨hR.other (by decide), rfl⟩)
          refine ⟨fun L ρ w' hR hC hL hd hk => ?_, ?_⟩
          · obtain ⟨k0, -⟩ := hk
            have e0 : ρ (.tmp 87) = Value.pointer (some ⟨g, J, none⟩) := k0
            clear k0
            refine Par.val_k fun K hK => ?_
            unfold Par.val
            (obtain ⟨ii, hii, hq⟩ := hR.some 0 rfl (hC.notyet 13 7 hL (by kernel_rfl)); have cc := HCzJ.out _ (RA.ext (hq.1 (by omega)) HR.out); go_simp; exact hK _ _ ⟨hR.other (by decide), rfl⟩)
          refine ⟨fun L ρ w' hR hC hL hd hk => ?_, ?_⟩
          · exact Par.val_of_run rfl ⟨hR.other (by decide), hk.1⟩
          refine ⟨fun L ρ w' hR hC hL hd hk => ?_, ?_⟩
          · exact Par.val_of_run rfl ⟨hR.other (by decide), hk.1⟩
          refine ⟨fun L ρ w' hR hC hL hd hk => ?_, ?_⟩
          · obtain ⟨k0, k1, -⟩ := hk
            have e0 : ρ (.tmp 89) = Value.slice (some ⟨g, 0, none⟩) n cap := k0
            have e1 : ρ (.tmp 90) = Value.int IntKind.i64 (I : Int) := k1
            clear k0 k1
            refine Par.val_k fun K hK => ?_
            unfold Par.val
            (go_simp; exact hK _ _ ⟨hR.other (by decide), rfl⟩)
          refine ⟨fun L ρ w' hR hC hL hd hk => ?_, ?_⟩
          · obtain ⟨k0, -⟩ := hk
            have e0 : ρ (.tmp 91) = Value.pointer (some ⟨g, I, none⟩) := k0
            clear k0
            refine Par.val_k fun K hK => ?_
            unfold Par.val
            (obtain ⟨ii, hii, hq⟩ := hR.some 0 rfl (hC.notyet 13 11 hL (by kernel_rfl)); have cc := HCzI.out _ (RA.ext (hq.1 (by omega)) HR.out); go_simp; exact hK _ _ ⟨hR.other (by decide), rfl⟩)
          refine ⟨fun L ρ w' hR hC hL hd hk => ?_, ?_⟩
          · obtain ⟨k0, k1, -⟩ := hk
            have e0 : ρ (.tmp 81) = Value.slice (some ⟨g, 0, none⟩) n cap := k0
            have e1 : ρ (.tmp 82) = Value.int IntKind.i64 (I : Int) := k1
            clear k0 k1
            refine Par.val_k fun K hK => ?_
            unfold Par.val
            (go_simp; exact hK _ _ ⟨hR.other (by decide), rfl⟩)
          refine ⟨fun L ρ w' hR hC hL hd hk => ?_, ?_⟩
          · obtain ⟨k0, k1, -⟩ := hk
            have e0 : ρ (.tmp 93) = Value.pointer (some ⟨g, I, none⟩) := k0
            have e1 : ρ (.tmp 88) = uv zJ := k1
            clear k0 k1
            refine Par.val_k fun K hK => ?_
            unfold Par.val
            (obtain ⟨hq, hs⟩ := hR.go 0 rfl hL (.inl rfl) (by decide); have hx := hq.1 (by decide); have hrow := RA.ext hx HR.out; obtain ⟨cc, ff⟩ := hrow.at (j := I) (by omega); obtain ⟨hset, hfs⟩ := hrow.set I zJ; have HSET := hid hset; have HFS := hid hfs; clear hset hfs hrow; go_simp; exact hK _ _ ⟨hs none _ _ ⟨fun h => absurd h (by decide), HSET.out, (Ext.fr hx).trans HFS.out⟩, trivial⟩)
          refine ⟨fun L ρ w' hR hC hL hd hk => ?_, ?_⟩
          · obtain ⟨k0, k1, -⟩ := hk
            have e0 : ρ (.tmp 83) = Value.slice (some ⟨g, 0, none⟩) n cap := k0
            have e1 : ρ (.tmp 84) = Value.int IntKind.i64 (J : Int) := k1
            clear k0 k1
            refine Par.val_k fun K hK => ?_
            unfold Par.val
            (go_simp; exact hK _ _ ⟨hR.other (by decide), rfl⟩)
          refine ⟨fun L ρ w' hR hC hL hd hk => ?_, ?_⟩
          · obtain ⟨k0, k1, -⟩ := hk
            have e0 : ρ (.tmp 94) = Value.pointer (some ⟨g, J, none⟩) := k0
            have e1 : ρ (.tmp 92) = uv zI := k1
            clear k0 k1
            refine Par.val_k fun K hK => ?_
            unfold Par.val
            (obtain ⟨hq, hs⟩ := hR.go 1 rfl hL (.inr ⟨13, rfl, hC.before 13 (i := 15) rfl hd (by kernel_rfl)⟩) (by decide); obtain ⟨hrow, hfr⟩ := hq.2; obtain ⟨cc, ff⟩ := hrow.at (j := J) (by omega); obtain ⟨hset, hfs⟩ := hrow.set J zI; have HSET := hid hset; have HFS := hid hfs; have HFR := hid hfr; clear hset hfs hrow hfr; go_simp; exact hK _ _ ⟨hs none _ _ ⟨fun h => absurd h (by decide), HSET.out, HFR.out.trans HFS.out⟩, trivial⟩)
          trivial
        intro a' w' inv hR
        have q81 : a'.tmps.getD 81 undef = Value.slice (some ⟨g, 0, none⟩) n cap := inv.done 0 _ 81 rfl rfl rfl
        have q82 : a'.tmps.getD 82 undef = Value.int IntKind.i64 (I : Int) := inv.done 1 _ 82 rfl rfl rfl
        have q83 : a'.tmps.getD 83 undef = Value.slice (some ⟨g, 0, none⟩) n cap := inv.done 2 _ 83 rfl rfl rfl
        have q84 : a'.tmps.getD 84 undef = Value.int IntKind.i64 (J : Int) := inv.done 3 _ 84 rfl rfl rfl
        have q85 : a'.tmps.getD 85 undef = Value.slice (some ⟨g, 0, none⟩) n cap := inv.done 4 _ 85 rfl rfl rfl
        have q86 : a'.tmps.getD 86 undef = Value.int IntKind.i64 (J : Int) := inv.done 5 _ 86 rfl rfl rfl
        have q87 : a'.tmps.getD 87 undef = Value.pointer (some ⟨g, J, none⟩) := inv.done 6 _ 87 rfl rfl rfl
        have q88 : a'.tmps.getD 88 undef = uv zJ := inv.done 7 _ 88 rfl rfl rfl
        have q89 : a'.tmps.getD 89 undef = Value.slice (some ⟨g, 0, none⟩) n cap := inv.done 8 _ 89 rfl rfl rfl
        have q90 : a'.tmps.getD 90 undef = Value.int IntKind.i64 (I : Int) := inv.done 9 _ 90 rfl rfl rfl
        have q91 : a'.tmps.getD 91 undef = Value.pointer (some ⟨g, I, none⟩) := inv.done 10 _ 91 rfl rfl rfl
        have q92 : a'.tmps.getD 92 undef = uv zI := inv.done 11 _ 92 rfl rfl rfl
        have q93 : a'.tmps.getD 93 undef = Value.pointer (some ⟨g, I, none⟩) := inv.done 12 _ 93 rfl rfl rfl
        have q94 : a'.tmps.getD 94 undef = Value.pointer (some ⟨g, J, none⟩) := inv.done 14 _ 94 rfl rfl rfl
        clear inv
        simp only [List.filterMap_cons, List.filterMap_nil, Par.putAll, Act.put, List.setIfInBounds_toArray, List.set_cons_succ, List.set_cons_zero, q81, q82, q83, q84, q85, q86, q87, q88, q89, q90, q91, q92, q93, q94]
        clear q81 q82 q83 q84 q85 q86 q87 q88 q89 q90 q91 q92 q93 q94
        obtain ⟨-, hrd, hf⟩ := Rg.Ch.fin hR (by decide) 2 rfl; have HRD := hid hrd; have HF4 := hid hf; clear hrd hf hR
        try clear a'
        have HR3 := hid (RA.swp HzI HzJ HRD.out)
        have HF3 := hid (HF.out.trans HF4.out)
        clear HRD HF4 HR HF
        have HR := HR3
        have HF := HF3
        clear HR3 HF3
        obtain ⟨d1, he⟩ : ∃ e, e = swp d I J := ⟨_, rfl⟩
        rw [← he] at HR HPL
        obtain ⟨I0, hI0⟩ : ∃ I0, I0 = I + 1 := ⟨_, rfl⟩
        have hI0a : a + 1 ≤ I0 := by omega
        have hI0b : I0 ≤ b := by omega
        have HI0 := hid hI0
        have HPL2 : Hid (D = ((partLoop ltU a I0 J1 d1).1, false, swp (partLoop ltU a I0 J1 d1).2 (partLoop ltU a I0 J1 d1).1 a)) := hid (by rw [hI0]; exact HPL.out)
        clear he HzI HzJ HCzI HCzJ hI0 HPL
        go_upto_block 4 with fail
        go_cut [10, 11] from 99 to 152 (fun iv jv wx => ∃ (j : Nat) (e : Array UInt64), a ≤ j ∧ j < b ∧ jv = .int .i64 (j : Int) ∧ Hid (RA wx B g n cap e) ∧ Hid ((j, e) = partLoop ltU a I0 J1 d1) ∧ Hid (Fr [g] w wx))
        case first =>
          go_wp2_with fail
          go_loopw [10, 11] (fun iv jv wr => ∃ (i j : Nat) (e : Array UInt64), a + 1 ≤ i ∧ i ≤ b ∧ a ≤ j ∧ j < b ∧ iv = .int .i64 (i : Int) ∧ jv = .int .i64 (j : Int) ∧ Hid (RA wr B g n cap e) ∧ Hid (partLoop ltU a i j e = partLoop ltU a I0 J1 d1) ∧ Hid (Fr [g] w wr)) (fun iv _ _ => n + 1 - (intOf iv).toNat)
          case atStart => exact ⟨I0, J1, d1, hI0a, hI0b, hJ1a, hJ1b, by first | rfl | exact congrArg _ (by have := HI0.out; omega) | go_num, by first | rfl | go_num, HR, hid rfl, HF⟩
          case round =>
            clear HR HF hwI hwJ
            obtain ⟨i0, j0, d, hi0a, hi0b, hj0a, hj0b, rfl, rfl, HR, HL, HF⟩ := hrel
            go_upto_block 6 with fail
            go_cut [10] from 99 to 152 (fun iv wx => ∃ i : Nat, a + 1 ≤ i ∧ i ≤ b ∧ iv = .int .i64 (i : Int) ∧ Hid (RA wx B g n cap d) ∧ Hid (scanUp (fun x => ltU x d[a]!) d j0 i0 = i) ∧ Hid (Fr [g] w wx))
            case first =>
              go_wp2_with fail
              go_loopw [10] (fun iv wr => ∃ i : Nat, a + 1 ≤ i ∧ i ≤ b ∧ iv = .int .i64 (i : Int) ∧ Hid (RA wr B g n cap d) ∧ Hid (scanUp (fun x => ltU x d[a]!) d j0 i = scanUp (fun x => ltU x d[a]!) d j0 i0) ∧ Hid (Fr [g] w wr)) (fun iv _ => n + 1 - (intOf iv).toNat)
              case atStart => exact ⟨i0, by omega, by omega, by first | rfl | go_num, HR, hid rfl, HF⟩
              case round =>
                clear HR HF
                obtain ⟨i, hi1, hi2, rfl, HR, HO, HF⟩ := hrel
                rcases Nat.lt_or_ge j0 i with hji | hji
                · have hcmp : (i ≤ j0) = False := by simp; omega
                  go_wp2_with fail
                  refine Par.wp_region_par (l := [_, _, _, _, _, _, _, _, _, _, _, _, _, _]) rfl Ext (Par.VL [Par.EQ (Value.int IntKind.i64 (i : Int)), Par.EQ (Value.int IntKind.i64 (j0 : Int)), Par.EQ (Value.bool false), Par.EQ (Value.bool false), Par.EQ (undef), Par.EQ (undef), Par.EQ (undef), Par.EQ (undef), Par.EQ (undef), Par.EQ (undef), Par.EQ (undef), Par.EQ (undef), Par.EQ (undef), Par.EQ (Value.bool false)]) (by kernel_rfl) Ext.refl (fun _ _ _ h1 h2 => Ext.trans h1 h2) (Ext.draw _) (Par.VL_stab ?_) ?_ ?_
                  · simp only [List.forall_mem_cons, List.not_mem_nil, false_implies, implies_true, and_true]
                    refine ⟨fun _ _ _ _ h => h, fun _ _ _ _ h => h, fun _ _ _ _ h => h, fun _ _ _ _ h => h, fun _ _ _ _ h => h, fun _ _ _ _ h => h, fun _ _ _ _ h => h, fun _ _ _ _ h => h, fun _ _ _ _ h => h, fun _ _ _ _ h => h, fun _ _ _ _ h => h, fun _ _ _ _ h => h, fun _ _ _ _ h => h, fun _ _ _ _ h => h⟩
                  · refine ⟨⟨fun _ _ => trivial, fun ρ w' hX hG hk => ?_⟩, ?_⟩
                    · exact Par.val_of_run rfl ⟨Ext.refl _, hk.1⟩
                    refine ⟨⟨fun _ _ => trivial, fun ρ w' hX hG hk => ?_⟩, ?_⟩
                    · exact Par.val_of_run rfl ⟨Ext.refl _, hk.1⟩
                    refine ⟨⟨fun _ _ => trivial, fun ρ w' hX hG hk => ?_⟩, ?_⟩
                    · obtain ⟨k0, k1, -⟩ := hk
                      have e0 : ρ (.tmp 99) = Value.int IntKind.i64 (i : Int) := k0
                      have e1 : ρ (.tmp 100) = Value.int IntKind.i64 (j0 : Int) := k1
                      clear k0 k1
                      refine Par.val_k fun K hK => ?_
                      unfold Par.val
                      (go_simp; exact hK _ _ ⟨Ext.refl _, rfl⟩)
                    refine ⟨⟨fun _ _ => trivial, fun ρ w' hX hG hk => ?_⟩, ?_⟩
                    · exact Par.val_of_run rfl ⟨Ext.refl _, hk.1⟩
                    refine ⟨⟨fun _ _ u hu => .inr rfl, fun ρ w' hX hG hk => ?_⟩, ?_⟩
                    · cases hG
                    refine ⟨⟨fun _ _ u hu => .inr rfl, fun ρ w' hX hG hk => ?_⟩, ?_⟩
                    · cases hG
                    refine ⟨⟨fun _ _ u hu => .inr rfl, fun ρ w' hX hG hk => ?_⟩, ?_⟩
                    · cases hG
                    refine ⟨⟨fun _ _ u hu => .inr rfl, fun ρ w' hX hG hk => ?_⟩, ?_⟩
                    · cases hG
                    refine ⟨⟨fun _ _ u hu => .inr rfl, fun ρ w' hX hG hk => ?_⟩, ?_⟩
                    · cases hG
                    refine ⟨⟨fun _ _ u hu => .inr rfl, fun ρ w' hX hG hk => ?_⟩, ?_⟩
                    · cases hG
                    refine ⟨⟨fun _ _ u hu => .inr rfl, fun ρ w' hX hG hk => ?_⟩, ?_⟩
                    · cases hG
                    refine ⟨⟨fun _ _ u hu => .inr rfl, fun ρ w' hX hG hk => ?_⟩, ?_⟩
                    · cases hG
                    refine ⟨⟨fun _ _ u hu => .inr rfl, fun ρ w' hX hG hk => ?_⟩, ?_⟩
                    · cases hG
                    refine ⟨⟨fun _ _ => trivial, fun ρ w' hX hG hk => ?_⟩, ?_⟩
                    · obtain ⟨k0, k1, k2, -⟩ := hk
                      have e0 : ρ (.tmp 102) = Value.bool false := k0
                      have e1 : ρ (.tmp 111) = undef := k1
                      have e2 : ρ (Operand.const (Value.bool false)) = (Value.bool false) := k2
                      clear k0 k1 k2
                      refine Par.val_k fun K hK => ?_
                      unfold Par.val
                      (go_simp; exact hK _ _ ⟨Ext.refl _, rfl⟩)
                    trivial
                  intro a' w' inv
                  have hX := inv.ext
                  have q99 : a'.tmps.getD 99 undef = Value.int IntKind.i64 (i : Int) := inv.done 0 _ 99 rfl rfl rfl
                  have q100 : a'.tmps.getD 100 undef = Value.int IntKind.i64 (j0 : Int) := inv.done 1 _ 100 rfl rfl rfl
                  have q101 : a'.tmps.getD 101 undef = Value.bool false := inv.done 2 _ 101 rfl rfl rfl
                  have q102 : a'.tmps.getD 102 undef = Value.bool false := inv.done 3 _ 102 rfl rfl rfl
                  have q103 : a'.tmps.getD 103 undef = undef := inv.done 4 _ 103 rfl rfl rfl
                  have q104 : a'.tmps.getD 104 undef = undef := inv.done 5 _ 104 rfl rfl rfl
                  have q105 : a'.tmps.getD 105 undef = undef := inv.done 6 _ 105 rfl rfl rfl
                  have q106 : a'.tmps.getD 106 undef = undef := inv.done 7 _ 106 rfl rfl rfl
                  have q107 : a'.tmps.getD 107 undef = undef := inv.done 8 _ 107 rfl rfl rfl
                  have q108 : a'.tmps.getD 108 undef = undef := inv.done 9 _ 108 rfl rfl rfl
                  have q109 : a'.tmps.getD 109 undef = undef := inv.done 10 _ 109 rfl rfl rfl
                  have q110 : a'.tmps.getD 110 undef = undef := inv.done 11 _ 110 rfl rfl rfl
                  have q111 : a'.tmps.getD 111 undef = undef := inv.done 12 _ 111 rfl rfl rfl
                  have q112 : a'.tmps.getD 112 undef = Value.bool false := inv.done 13 _ 112 rfl rfl rfl
                  clear inv
                  simp only [List.filterMap_cons, List.filterMap_nil, Par.putAll, Act.put, List.setIfInBounds_toArray, List.set_cons_succ, List.set_cons_zero, q99, q100, q101, q102, q103, q104, q105, q106, q107, q108, q109, q110, q111, q112]
                  clear q99 q100 q101 q102 q103 q104 q105 q106 q107 q108 q109 q110 q111 q112
                  clear a'
                  have HF2 := hid (HF.out.trans (Ext.fr hX))
                  have HR2 := hid (RA.ext hX HR.out)
                  clear hX HF HR
                  have HF := HF2
                  have HR := HR2
                  clear HF2 HR2
                  have HO2 := hid (HO.out.symm.trans (scanUp_stop (fun x => ltU x d[a]!) d _ i hji))
                  clear hcmp
                  go_wp2
                  go_meet
                  case rel => exact ⟨i, hi1, hi2, rfl, HR, HO2, HF⟩
                · have hwi : IntKind.i64.wrap ((i : Int) + 1) = ((i + 1 : Nat) : Int) := i64v _ (by omega) (by omega)
                  have hin : i < n := by omega
                  have hin2 : (i : Int) < n := by omega
                  obtain ⟨zi, Hzi, HCzi⟩ := cellV (B := B) (g := g) (n := n) (cap := cap) d i (by omega)
                  obtain ⟨za, Hza, HCza⟩ := cellV (B := B) (g := g) (n := n) (cap := cap) d a (by omega)
                  obtain ⟨b0, Hb0⟩ : ∃ b, Hid (ltU zi za = b) := ⟨_, hid rfl⟩
                  have HIN : Hid (scanUp (fun x => ltU x d[a]!) d j0 i = if b0 then scanUp (fun x => ltU x d[a]!) d j0 (i + 1) else i) := hid (by rw [scanUp_go (fun x => ltU x d[a]!) d _ i hji]; simp only [Hzi.out, Hza.out, Hb0.out])
                  go_wp2_with fail
                  refine Par.wp_region_par (l := [_, _, _, _, _, _, _, _, _, _, _, _, _, _]) rfl Ext (Par.VL [Par.EQ (Value.int IntKind.i64 (i : Int)), Par.EQ (Value.int IntKind.i64 (j0 : Int)), Par.EQ (Value.bool true), Par.EQ (Value.bool true), Par.EQ (Value.slice (some ⟨g, 0, none⟩) n cap), Par.EQ (Value.int IntKind.i64 (i : Int)), Par.EQ (Value.pointer (some ⟨g, i, none⟩)), Par.EQ (uv zi), Par.EQ (Value.slice (some ⟨g, 0, none⟩) n cap), Par.EQ (Value.int IntKind.i64 (a : Int)), Par.EQ (Value.pointer (some ⟨g, a, none⟩)), Par.EQ (uv za), Par.EQ (Value.bool b0), Par.EQ (Value.bool b0)]) (by kernel_rfl) Ext.refl (fun _ _ _ h1 h2 => Ext.trans h1 h2) (Ext.draw _) (Par.VL_stab ?_) ?_ ?_
                  · simp only [List.forall_mem_cons, List.not_mem_nil, false_implies, implies_true, and_true]
                    refine ⟨fun _ _ _ _ h => h, fun _ _ _ _ h => h, fun _ _ _ _ h => h, fun _ _ _ _ h => h, fun _ _ _ _ h => h, fun _ _ _ _ h => h, fun _ _ _ _ h => h, fun _ _ _ _ h => h, fun _ _ _ _ h => h, fun _ _ _ _ h => h, fun _ _ _ _ h => h, fun _ _ _ _ h => h, fun _ _ _ _ h => h, fun _ _ _ _ h => h⟩
                  · refine ⟨⟨fun _ _ => trivial, fun ρ w' hX hG hk => ?_⟩, ?_⟩
                    · exact Par.val_of_run rfl ⟨Ext.refl _, hk.1⟩
                    refine ⟨⟨fun _ _ => trivial, fun ρ w' hX hG hk => ?_⟩, ?_⟩
                    · exact Par.val_of_run rfl ⟨Ext.refl _, hk.1⟩
                    refine ⟨⟨fun _ _ => trivial, fun ρ w' hX hG hk => ?_⟩, ?_⟩
                    · obtain ⟨k0, k1, -⟩ := hk
                      have e0 : ρ (.tmp 99) = Value.int IntKind.i64 (i : Int) := k0
                      have e1 : ρ (.tmp 100) = Value.int IntKind.i64 (j0 : Int) := k1
                      clear k0 k1
                      refine Par.val_k fun K hK => ?_
                      unfold Par.val
                      (go_simp; exact hK _ _ ⟨Ext.refl _, rfl⟩)
                    refine ⟨⟨fun _ _ => trivial, fun ρ w' hX hG hk => ?_⟩, ?_⟩
                    · exact Par.val_of_run rfl ⟨Ext.refl _, hk.1⟩
                    refine ⟨⟨fun _ _ u hu => .inl hu, fun ρ w' hX hG hk => ?_⟩, ?_⟩
                    · exact Par.val_of_run rfl ⟨Ext.refl _, hk.1⟩
                    refine ⟨⟨fun _ _ u hu => .inl hu, fun ρ w' hX hG hk => ?_⟩, ?_⟩
                    · exact Par.val_of_run rfl ⟨Ext.refl _, hk.1⟩
                    refine ⟨⟨fun _ _ u hu => .inl hu, fun ρ w' hX hG hk => ?_⟩, ?_⟩
                    · obtain ⟨k0, k1, -⟩ := hk
                      have e0 : ρ (.tmp 103) = Value.slice (some ⟨g, 0, none⟩) n cap := k0
                      have e1 : ρ (.tmp 104) = Value.int IntKind.i64 (i : Int) := k1
                      clear k0 k1
                      refine Par.val_k fun K hK => ?_
                      unfold Par.val
                      (go_simp; exact hK _ _ ⟨Ext.refl _, rfl⟩)
                    refine ⟨⟨fun _ _ u hu => .inl hu, fun ρ w' hX hG hk => ?_⟩, ?_⟩
                    · obtain ⟨k0, -⟩ := hk
                      have e0 : ρ (.tmp 105) = Value.pointer (some ⟨g, i, none⟩) := k0
                      clear k0
                      refine Par.val_k fun K hK => ?_
                      unfold Par.val
                      (have cc := HCzi.out _ (RA.ext hX HR.out); go_simp; exact hK _ _ ⟨Ext.refl _, rfl⟩)
                    refine ⟨⟨fun _ _ u hu => .inl hu, fun ρ w' hX hG hk => ?_⟩, ?_⟩
                    · exact Par.val_of_run rfl ⟨Ext.refl _, hk.1⟩
                    refine ⟨⟨fun _ _ u hu => .inl hu, fun ρ w' hX hG hk => ?_⟩, ?_⟩
                    · exact Par.val_of_run rfl ⟨Ext.refl _, hk.1⟩
                    refine ⟨⟨fun _ _ u hu => .inl hu, fun ρ w' hX hG hk => ?_⟩, ?_⟩
                    · obtain ⟨k0, k1, -⟩ := hk
                      have e0 : ρ (.tmp 107) = Value.slice (some ⟨g, 0, none⟩) n cap := k0
                      have e1 : ρ (.tmp 108) = Value.int IntKind.i64 (a : Int) := k1
                      clear k0 k1
                      refine Par.val_k fun K hK => ?_
                      unfold Par.val
                      (go_simp; exact hK _ _ ⟨Ext.refl _, rfl⟩)
                    refine ⟨⟨fun _ _ u hu => .inl hu, fun ρ w' hX hG hk => ?_⟩, ?_⟩
                    · obtain ⟨k0, -⟩ := hk
                      have e0 : ρ (.tmp 109) = Value.pointer (some ⟨g, a, none⟩) := k0
                      clear k0
                      refine Par.val_k fun K hK => ?_
                      unfold Par.val
                      (have cc := HCza.out _ (RA.ext hX HR.out); go_simp; exact hK _ _ ⟨Ext.refl _, rfl⟩)
                    refine ⟨⟨fun _ _ u hu => .inl hu, fun ρ w' hX hG hk => ?_⟩, ?_⟩
                    · obtain ⟨k0, k1, k2, -⟩ := hk
                      have e0 := k0
                      have e1 : ρ (.tmp 106) = uv zi := k1
                      have e2 : ρ (.tmp 110) = uv za := k2
                      clear k0 k1 k2
                      refine Par.val_k fun K hK => ?_
                      unfold Par.val
                      refine Par.val_call Tryd.func46 (by kernel_rfl) rfl e0 ?_
                      simp only [List.map_toArray, List.map_cons, List.map_nil, e1, e2]
                      refine (lessU_any zi za _).mono ?_
                      rintro e w2 ⟨rfl, rfl⟩
                      exact ⟨_, rfl, hK _ _ ⟨Ext.refl _, (congrArg Value.bool Hb0.out)⟩⟩
                    refine ⟨⟨fun _ _ => trivial, fun ρ w' hX hG hk => ?_⟩, ?_⟩
                    · obtain ⟨k0, k1, k2, -⟩ := hk
                      have e0 : ρ (.tmp 102) = Value.bool true := k0
                      have e1 : ρ (.tmp 111) = Value.bool b0 := k1
                      have e2 : ρ (Operand.const (Value.bool false)) = (Value.bool false) := k2
                      clear k0 k1 k2
                      refine Par.val_k fun K hK => ?_
                      unfold Par.val
                      (go_simp; exact hK _ _ ⟨Ext.refl _, rfl⟩)
                    trivial
                  intro a' w' inv
                  have hX := inv.ext
                  have q99 : a'.tmps.getD 99 undef = Value.int IntKind.i64 (i : Int) := inv.done 0 _ 99 rfl rfl rfl
                  have q100 : a'.tmps.getD 100 undef = Value.int IntKind.i64 (j0 : Int) := inv.done 1 _ 100 rfl rfl rfl
                  have q101 : a'.tmps.getD 101 undef = Value.bool true := inv.done 2 _ 101 rfl rfl rfl
                  have q102 : a'.tmps.getD 102 undef = Value.bool true := inv.done 3 _ 102 rfl rfl rfl
                  have q103 : a'.tmps.getD 103 undef = Value.slice (some ⟨g, 0, none⟩) n cap := inv.done 4 _ 103 rfl rfl rfl
                  have q104 : a'.tmps.getD 104 undef = Value.int IntKind.i64 (i : Int) := inv.done 5 _ 104 rfl rfl rfl
                  have q105 : a'.tmps.getD 105 undef = Value.pointer (some ⟨g, i, none⟩) := inv.done 6 _ 105 rfl rfl rfl
                  have q106 : a'.tmps.getD 106 undef = uv zi := inv.done 7 _ 106 rfl rfl rfl
                  have q107 : a'.tmps.getD 107 undef = Value.slice (some ⟨g, 0, none⟩) n cap := inv.done 8 _ 107 rfl rfl rfl
                  have q108 : a'.tmps.getD 108 undef = Value.int IntKind.i64 (a : Int) := inv.done 9 _ 108 rfl rfl rfl
                  have q109 : a'.tmps.getD 109 undef = Value.pointer (some ⟨g, a, none⟩) := inv.done 10 _ 109 rfl rfl rfl
                  have q110 : a'.tmps.getD 110 undef = uv za := inv.done 11 _ 110 rfl rfl rfl
                  have q111 : a'.tmps.getD 111 undef = Value.bool b0 := inv.done 12 _ 111 rfl rfl rfl
                  have q112 : a'.tmps.getD 112 undef = Value.bool b0 := inv.done 13 _ 112 rfl rfl rfl
                  clear inv
                  simp only [List.filterMap_cons, List.filterMap_nil, Par.putAll, Act.put, List.setIfInBounds_toArray, List.set_cons_succ, List.set_cons_zero, q99, q100, q101, q102, q103, q104, q105, q106, q107, q108, q109, q110, q111, q112]
                  clear q99 q100 q101 q102 q103 q104 q105 q106 q107 q108 q109 q110 q111 q112
                  clear a'
                  have HF2 := hid (HF.out.trans (Ext.fr hX))
                  have HR2 := hid (RA.ext hX HR.out)
                  clear hX HF HR
                  have HF := HF2
                  have HR := HR2
                  clear HF2 HR2
                  cases b0
                  case false =>
                    have HO2 : Hid (scanUp (fun x => ltU x d[a]!) d j0 i0 = i) := hid (by have := HO.out; rw [HIN.out] at this; simpa using this.symm)
                    go_wp2
                    go_meet
                    case rel => exact ⟨i, hi1, hi2, rfl, HR, HO2, HF⟩
                  case true =>
                    have HO2 : Hid (scanUp (fun x => ltU x d[a]!) d j0 (i + 1) = scanUp (fun x => ltU x d[a]!) d j0 i0) := hid (by have := HO.out; rw [HIN.out] at this; simpa using this)
                    go_wp2
                    go_roundw
                    case rel => exact ⟨i + 1, by omega, by omega, by first | rfl | go_num, HR, HO2, HF⟩
                    case measure => simp [intOf] <;> omega
            case rest =>
              clear HR HF
              obtain ⟨I, hI1, hI2, rfl, HR, HI, HF⟩ := hcut
              go_upto_block 8 with fail
              go_cut [11] from 99 to 152 (fun jv wx => ∃ j : Nat, a ≤ j ∧ j < b ∧ jv = .int .i64 (j : Int) ∧ Hid (RA wx B g n cap d) ∧ Hid (scanDown (fun x => !ltU x d[a]!) d I j0 = j) ∧ Hid (Fr [g] w wx))
              case first =>
                go_wp2_with fail
                go_loopw [11] (fun jv wr => ∃ j : Nat, a ≤ j ∧ j < b ∧ jv = .int .i64 (j : Int) ∧ Hid (RA wr B g n cap d) ∧ Hid (scanDown (fun x => !ltU x d[a]!) d I j = scanDown (fun x => !ltU x d[a]!) d I j0) ∧ Hid (Fr [g] w wr)) (fun jv _ => (intOf jv).toNat)
                case atStart => exact ⟨j0, by omega, by omega, by first | rfl | go_num, HR, hid rfl, HF⟩
                case round =>
                  clear HR HF
                  obtain ⟨j, hj1, hj2, rfl, HR, HO, HF⟩ := hrel
                  rcases Nat.lt_or_ge j I with hji | hji
                  · have hcmp : (I ≤ j) = False := by simp; omega
                    go_wp2_with fail
                    refine Par.wp_region_par (l := [_, _, _, _, _, _, _, _, _, _, _, _, _, _, _]) rfl Ext (Par.VL [Par.EQ (Value.int IntKind.i64 (I : Int)), Par.EQ (Value.int IntKind.i64 (j : Int)), Par.EQ (Value.bool false), Par.EQ (Value.bool false), Par.EQ (undef), Par.EQ (undef), Par.EQ (undef), Par.EQ (undef), Par.EQ (undef), Par.EQ (undef), Par.EQ (undef), Par.EQ (undef), Par.EQ (undef), Par.EQ (undef), Par.EQ (Value.bool false)]) (by kernel_rfl) Ext.refl (fun _ _ _ h1 h2 => Ext.trans h1 h2) (Ext.draw _) (Par.VL_stab ?_) ?_ ?_
                    · simp only [List.forall_mem_cons, List.not_mem_nil, false_implies, implies_true, and_true]
                      refine ⟨fun _ _ _ _ h => h, fun _ _ _ _ h => h, fun _ _ _ _ h => h, fun _ _ _ _ h => h, fun _ _ _ _ h => h, fun _ _ _ _ h => h, fun _ _ _ _ h => h, fun _ _ _ _ h => h, fun _ _ _ _ h => h, fun _ _ _ _ h => h, fun _ _ _ _ h => h, fun _ _ _ _ h => h, fun _ _ _ _ h => h, fun _ _ _ _ h => h, fun _ _ _ _ h => h⟩
                    · refine ⟨⟨fun _ _ => trivial, fun ρ w' hX hG hk => ?_⟩, ?_⟩
                      · exact Par.val_of_run rfl ⟨Ext.refl _, hk.1⟩
                      refine ⟨⟨fun _ _ => trivial, fun ρ w' hX hG hk => ?_⟩, ?_⟩
                      · exact Par.val_of_run rfl ⟨Ext.refl _, hk.1⟩
                      refine ⟨⟨fun _ _ => trivial, fun ρ w' hX hG hk => ?_⟩, ?_⟩
                      · obtain ⟨k0, k1, -⟩ := hk
                        have e0 : ρ (.tmp 115) = Value.int IntKind.i64 (I : Int) := k0
                        have e1 : ρ (.tmp 116) = Value.int IntKind.i64 (j : Int) := k1
                        clear k0 k1
                        refine Par.val_k fun K hK => ?_
                        unfold Par.val
                        (go_simp; exact hK _ _ ⟨Ext.refl _, rfl⟩)
                      refine ⟨⟨fun _ _ => trivial, fun ρ w' hX hG hk => ?_⟩, ?_⟩
                      · exact Par.val_of_run rfl ⟨Ext.refl _, hk.1⟩
                      refine ⟨⟨fun _ _ u hu => .inr rfl, fun ρ w' hX hG hk => ?_⟩, ?_⟩
                      · cases hG
                      refine ⟨⟨fun _ _ u hu => .inr rfl, fun ρ w' hX hG hk => ?_⟩, ?_⟩
                      · cases hG
                      refine ⟨⟨fun _ _ u hu => .inr rfl, fun ρ w' hX hG hk => ?_⟩, ?_⟩
                      · cases hG
                      refine ⟨⟨fun _ _ u hu => .inr rfl, fun ρ w' hX hG hk => ?_⟩, ?_⟩
                      · cases hG
                      refine ⟨⟨fun _ _ u hu => .inr rfl, fun ρ w' hX hG hk => ?_⟩, ?_⟩
                      · cases hG
                      refine ⟨⟨fun _ _ u hu => .inr rfl, fun ρ w' hX hG hk => ?_⟩, ?_⟩
                      · cases hG
                      refine ⟨⟨fun _ _ u hu => .inr rfl, fun ρ w' hX hG hk => ?_⟩, ?_⟩
                      · cases hG
                      refine ⟨⟨fun _ _ u hu => .inr rfl, fun ρ w' hX hG hk => ?_⟩, ?_⟩
                      · cases hG
                      refine ⟨⟨fun _ _ u hu => .inr rfl, fun ρ w' hX hG hk => ?_⟩, ?_⟩
                      · cases hG
                      refine ⟨⟨fun _ _ u hu => .inr rfl, fun ρ w' hX hG hk => ?_⟩, ?_⟩
                      · cases hG
                      refine ⟨⟨fun _ _ => trivial, fun ρ w' hX hG hk => ?_⟩, ?_⟩
                      · obtain ⟨k0, k1, k2, -⟩ := hk
                        have e0 : ρ (.tmp 118) = Value.bool false := k0
                        have e1 : ρ (.tmp 128) = undef := k1
                        have e2 : ρ (Operand.const (Value.bool false)) = (Value.bool false) := k2
                        clear k0 k1 k2
                        refine Par.val_k fun K hK => ?_
                        unfold Par.val
                        (go_simp; exact hK _ _ ⟨Ext.refl _, rfl⟩)
                      trivial
                    intro a' w' inv
                    have hX := inv.ext
                    have q115 : a'.tmps.getD 115 undef = Value.int IntKind.i64 (I : Int) := inv.done 0 _ 115 rfl rfl rfl
                    have q116 : a'.tmps.getD 116 undef = Value.int IntKind.i64 (j : Int) := inv.done 1 _ 116 rfl rfl rfl
                    have q117 : a'.tmps.getD 117 undef = Value.bool false := inv.done 2 _ 117 rfl rfl rfl
                    have q118 : a'.tmps.getD 118 undef = Value.bool false := inv.done 3 _ 118 rfl rfl rfl
                    have q119 : a'.tmps.getD 119 undef = undef := inv.done 4 _ 119 rfl rfl rfl
                    have q120 : a'.tmps.getD 120 undef = undef := inv.done 5 _ 120 rfl rfl rfl
                    have q121 : a'.tmps.getD 121 undef = undef := inv.done 6 _ 121 rfl rfl rfl
                    have q122 : a'.tmps.getD 122 undef = undef := inv.done 7 _ 122 rfl rfl rfl
                    have q123 : a'.tmps.getD 123 undef = undef := inv.done 8 _ 123 rfl rfl rfl
                    have q124 : a'.tmps.getD 124 undef = undef := inv.done 9 _ 124 rfl rfl rfl
                    have q125 : a'.tmps.getD 125 undef = undef := inv.done 10 _ 125 rfl rfl rfl
                    have q126 : a'.tmps.getD 126 undef = undef := inv.done 11 _ 126 rfl rfl rfl
                    have q127 : a'.tmps.getD 127 undef = undef := inv.done 12 _ 127 rfl rfl rfl
                    have q128 : a'.tmps.getD 128 undef = undef := inv.done 13 _ 128 rfl rfl rfl
                    have q129 : a'.tmps.getD 129 undef = Value.bool false := inv.done 14 _ 129 rfl rfl rfl
                    clear inv
                    simp only [List.filterMap_cons, List.filterMap_nil, Par.putAll, Act.put, List.setIfInBounds_toArray, List.set_cons_succ, List.set_cons_zero, q115, q116, q117, q118, q119, q120, q121, q122, q123, q124, q125, q126, q127, q128, q129]
                    clear q115 q116 q117 q118 q119 q120 q121 q122 q123 q124 q125 q126 q127 q128 q129
                    clear a'
                    have HF2 := hid (HF.out.trans (Ext.fr hX))
                    have HR2 := hid (RA.ext hX HR.out)
                    clear hX HF HR
                    have HF := HF2
                    have HR := HR2
                    clear HF2 HR2
                    have HO2 := hid (HO.out.symm.trans (scanDown_stop (fun x => !ltU x d[a]!) d _ j hji))
                    clear hcmp
                    go_wp2
                    go_meet
                    case rel => exact ⟨j, hj1, hj2, rfl, HR, HO2, HF⟩
                  · obtain ⟨q, hq⟩ : ∃ q, q + 1 = j := ⟨j - 1, by omega⟩
                    have hwj : IntKind.i64.wrap ((j : Int) - 1) = (q : Int) := i64v _ (by omega) (by omega)
                    have hjn : j < n := by omega
                    have hjn2 : (j : Int) < n := by omega
                    obtain ⟨zj, Hzj, HCzj⟩ := cellV (B := B) (g := g) (n := n) (cap := cap) d j (by omega)
                    obtain ⟨za, Hza, HCza⟩ := cellV (B := B) (g := g) (n := n) (cap := cap) d a (by omega)
                    obtain ⟨b0, Hb0⟩ : ∃ b, Hid (ltU zj za = b) := ⟨_, hid rfl⟩
                    have HIN : Hid (scanDown (fun x => !ltU x d[a]!) d I j = if (!b0) then scanDown (fun x => !ltU x d[a]!) d I q else j) := hid (by rw [scanDown_go (fun x => !ltU x d[a]!) d _ j q hq hji]; simp only [Hzj.out, Hza.out, Hb0.out])
                    have HQ := hid hq
                    clear hq
                    go_wp2_with fail
                    refine Par.wp_region_par (l := [_, _, _, _, _, _, _, _, _, _, _, _, _, _, _]) rfl Ext (Par.VL [Par.EQ (Value.int IntKind.i64 (I : Int)), Par.EQ (Value.int IntKind.i64 (j : Int)), Par.EQ (Value.bool true), Par.EQ (Value.bool true), Par.EQ (Value.slice (some ⟨g, 0, none⟩) n cap), Par.EQ (Value.int IntKind.i64 (j : Int)), Par.EQ (Value.pointer (some ⟨g, j, none⟩)), Par.EQ (uv zj), Par.EQ (Value.slice (some ⟨g, 0, none⟩) n cap), Par.EQ (Value.int IntKind.i64 (a : Int)), Par.EQ (Value.pointer (some ⟨g, a, none⟩)), Par.EQ (uv za), Par.EQ (Value.bool b0), Par.EQ (Value.bool (!b0)), Par.EQ (Value.bool (!b0))]) (by kernel_rfl) Ext.refl (fun _ _ _ h1 h2 => Ext.trans h1 h2) (Ext.draw _) (Par.VL_stab ?_) ?_ ?_
                    · simp only [List.forall_mem_cons, List.not_mem_nil, false_implies, implies_true, and_true]
                      refine ⟨fun _ _ _ _ h => h, fun _ _ _ _ h => h, fun _ _ _ _ h => h, fun _ _ _ _ h => h, fun _ _ _ _ h => h, fun _ _ _ _ h => h, fun _ _ _ _ h => h, fun _ _ _ _ h => h, fun _ _ _ _ h => h, fun _ _ _ _ h => h, fun _ _ _ _ h => h, fun _ _ _ _ h => h, fun _ _ _ _ h => h, fun _ _ _ _ h => h, fun _ _ _ _ h => h⟩
                    · refine ⟨⟨fun _ _ => trivial, fun ρ w' hX hG hk => ?_⟩, ?_⟩
                      · exact Par.val_of_run rfl ⟨Ext.refl _, hk.1⟩
                      refine ⟨⟨fun _ _ => trivial, fun ρ w' hX hG hk => ?_⟩, ?_⟩
                      · exact Par.val_of_run rfl ⟨Ext.refl _, hk.1⟩
                      refine ⟨⟨fun _ _ => trivial, fun ρ w' hX hG hk => ?_⟩, ?_⟩
                      · obtain ⟨k0, k1, -⟩ := hk
                        have e0 : ρ (.tmp 115) = Value.int IntKind.i64 (I : Int) := k0
                        have e1 : ρ (.tmp 116) = Value.int IntKind.i64 (j : Int) := k1
                        clear k0 k1
                        refine Par.val_k fun K hK => ?_
                        unfold Par.val
                        (go_simp; exact hK _ _ ⟨Ext.refl _, rfl⟩)
                      refine ⟨⟨fun _ _ => trivial, fun ρ w' hX hG hk => ?_⟩, ?_⟩
                      · exact Par.val_of_run rfl ⟨Ext.refl _, hk.1⟩
                      refine ⟨⟨fun _ _ u hu => .inl hu, fun ρ w' hX hG hk => ?_⟩, ?_⟩
                      · exact Par.val_of_run rfl ⟨Ext.refl _, hk.1⟩
                      refine ⟨⟨fun _ _ u hu => .inl hu, fun ρ w' hX hG hk => ?_⟩, ?_⟩
                      · exact Par.val_of_run rfl ⟨Ext.refl _, hk.1⟩
                      refine ⟨⟨fun _ _ u hu => .inl hu, fun ρ w' hX hG hk => ?_⟩, ?_⟩
                      · obtain ⟨k0, k1, -⟩ := hk
                        have e0 : ρ (.tmp 119) = Value.slice (some ⟨g, 0, none⟩) n cap := k0
                        have e1 : ρ (.tmp 120) = Value.int IntKind.i64 (j : Int) := k1
                        clear k0 k1
                        refine Par.val_k fun K hK => ?_
                        unfold Par.val
                        (go_simp; exact hK _ _ ⟨Ext.refl _, rfl⟩)
                      refine ⟨⟨fun _ _ u hu => .inl hu, fun ρ w' hX hG hk => ?_⟩, ?_⟩
                      · obtain ⟨k0, -⟩ := hk
                        have e0 : ρ (.tmp 121) = Value.pointer (some ⟨g, j, none⟩) := k0
                        clear k0
                        refine Par.val_k fun K hK => ?_
                        unfold Par.val
                        (have cc := HCzj.out _ (RA.ext hX HR.out); go_simp; exact hK _ _ ⟨Ext.refl _, rfl⟩)
                      refine ⟨⟨fun _ _ u hu => .inl hu, fun ρ w' hX hG hk => ?_⟩, ?_⟩
                      · exact Par.val_of_run rfl ⟨Ext.refl _, hk.1⟩
                      refine ⟨⟨fun _ _ u hu => .inl hu, fun ρ w' hX hG hk => ?_⟩, ?_⟩
                      · exact Par.val_of_run rfl ⟨Ext.refl _, hk.1⟩
                      refine ⟨⟨fun _ _ u hu => .inl hu, fun ρ w' hX hG hk => ?_⟩, ?_⟩
                      · obtain ⟨k0, k1, -⟩ := hk
                        have e0 : ρ (.tmp 123) = Value.slice (some ⟨g, 0, none⟩) n cap := k0
                        have e1 : ρ (.tmp 124) = Value.int IntKind.i64 (a : Int) := k1
                        clear k0 k1
                        refine Par.val_k fun K hK => ?_
                        unfold Par.val
                        (go_simp; exact hK _ _ ⟨Ext.refl _, rfl⟩)
                      refine ⟨⟨fun _ _ u hu => .inl hu, fun ρ w' hX hG hk => ?_⟩, ?_⟩
                      · obtain ⟨k0, -⟩ := hk
                        have e0 : ρ (.tmp 125) = Value.pointer (some ⟨g, a, none⟩) := k0
                        clear k0
                        refine Par.val_k fun K hK => ?_
                        unfold Par.val
                        (have cc := HCza.out _ (RA.ext hX HR.out); go_simp; exact hK _ _ ⟨Ext.refl _, rfl⟩)
                      refine ⟨⟨fun _ _ u hu => .inl hu, fun ρ w' hX hG hk => ?_⟩, ?_⟩
                      · obtain ⟨k0, k1, k2, -⟩ := hk
                        have e0 := k0
                        have e1 : ρ (.tmp 122) = uv zj := k1
                        have e2 : ρ (.tmp 126) = uv za := k2
                        clear k0 k1 k2
                        refine Par.val_k fun K hK => ?_
                        unfold Par.val
                        refine Par.val_call Tryd.func46 (by kernel_rfl) rfl e0 ?_
                        simp only [List.map_toArray, List.map_cons, List.map_nil, e1, e2]
                        refine (lessU_any zj za _).mono ?_
                        rintro e w2 ⟨rfl, rfl⟩
                        exact ⟨_, rfl, hK _ _ ⟨Ext.refl _, (congrArg Value.bool Hb0.out)⟩⟩
                      refine ⟨⟨fun _ _ u hu => .inl hu, fun ρ w' hX hG hk => ?_⟩, ?_⟩
                      · obtain ⟨k0, -⟩ := hk
                        have e0 : ρ (.tmp 127) = Value.bool b0 := k0
                        clear k0
                        refine Par.val_k fun K hK => ?_
                        unfold Par.val
                        (go_simp; exact hK _ _ ⟨Ext.refl _, rfl⟩)
                      refine ⟨⟨fun _ _ => trivial, fun ρ w' hX hG hk => ?_⟩, ?_⟩
                      · obtain ⟨k0, k1, k2, -⟩ := hk
                        have e0 : ρ (.tmp 118) = Value.bool true := k0
                        have e1 : ρ (.tmp 128) = Value.bool (!b0) := k1
                        have e2 : ρ (Operand.const (Value.bool false)) = (Value.bool false) := k2
                        clear k0 k1 k2
                        refine Par.val_k fun K hK => ?_
                        unfold Par.val
                        (go_simp; exact hK _ _ ⟨Ext.refl _, rfl⟩)
                      trivial
                    intro a' w' inv
                    have hX := inv.ext
                    have q115 : a'.tmps.getD 115 undef = Value.int IntKind.i64 (I : Int) := inv.done 0 _ 115 rfl rfl rfl
                    have q116 : a'.tmps.getD 116 undef = Value.int IntKind.i64 (j : Int) := inv.done 1 _ 116 rfl rfl rfl
                    have q117 : a'.tmps.getD 117 undef = Value.bool true := inv.done 2 _ 117 rfl rfl rfl
                    have q118 : a'.tmps.getD 118 undef = Value.bool true := inv.done 3 _ 118 rfl rfl rfl
                    have q119 : a'.tmps.getD 119 undef = Value.slice (some ⟨g, 0, none⟩) n cap := inv.done 4 _ 119 rfl rfl rfl
                    have q120 : a'.tmps.getD 120 undef = Value.int IntKind.i64 (j : Int) := inv.done 5 _ 120 rfl rfl rfl
                    have q121 : a'.tmps.getD 121 undef = Value.pointer (some ⟨g, j, none⟩) := inv.done 6 _ 121 rfl rfl rfl
                    have q122 : a'.tmps.getD 122 undef = uv zj := inv.done 7 _ 122 rfl rfl rfl
                    have q123 : a'.tmps.getD 123 undef = Value.slice (some ⟨g, 0, none⟩) n cap := inv.done 8 _ 123 rfl rfl rfl
                    have q124 : a'.tmps.getD 124 undef = Value.int IntKind.i64 (a : Int) := inv.done 9 _ 124 rfl rfl rfl
                    have q125 : a'.tmps.getD 125 undef = Value.pointer (some ⟨g, a, none⟩) := inv.done 10 _ 125 rfl rfl rfl
                    have q126 : a'.tmps.getD 126 undef = uv za := inv.done 11 _ 126 rfl rfl rfl
                    have q127 : a'.tmps.getD 127 undef = Value.bool b0 := inv.done 12 _ 127 rfl rfl rfl
                    have q128 : a'.tmps.getD 128 undef = Value.bool (!b0) := inv.done 13 _ 128 rfl rfl rfl
                    have q129 : a'.tmps.getD 129 undef = Value.bool (!b0) := inv.done 14 _ 129 rfl rfl rfl
                    clear inv
                    simp only [List.filterMap_cons, List.filterMap_nil, Par.putAll, Act.put, List.setIfInBounds_toArray, List.set_cons_succ, List.set_cons_zero, q115, q116, q117, q118, q119, q120, q121, q122, q123, q124, q125, q126, q127, q128, q129]
                    clear q115 q116 q117 q118 q119 q120 q121 q122 q123 q124 q125 q126 q127 q128 q129
                    clear a'
                    have HF2 := hid (HF.out.trans (Ext.fr hX))
                    have HR2 := hid (RA.ext hX HR.out)
                    clear hX HF HR
                    have HF := HF2
                    have HR := HR2
                    clear HF2 HR2
                    cases b0
                    case true =>
                      have HO2 : Hid (scanDown (fun x => !ltU x d[a]!) d I j0 = j) := hid (by have := HO.out; rw [HIN.out] at this; simpa using this.symm)
                      go_wp2
                      go_meet
                      case rel => exact ⟨j, hj1, hj2, rfl, HR, HO2, HF⟩
                    case false =>
                      have HO2 : Hid (scanDown (fun x => !ltU x d[a]!) d I q = scanDown (fun x => !ltU x d[a]!) d I j0) := hid (by have := HO.out; rw [HIN.out] at this; simpa using this)
                      go_wp2
                      go_roundw
                      case rel => exact ⟨q, by have := HQ.out; omega, by have := HQ.out; omega, by first | rfl | go_num, HR, HO2, HF⟩
                      case measure => simp [intOf] <;> (have := HQ.out; omega)
              case rest =>
                clear HR HF
                obtain ⟨J, hJ1, hJ2, rfl, HR, HJ, HF⟩ := hcut
                have HEQ := hid (partLoop_unf d a i0 j0 HI.out HJ.out)
                have HGR : Hid (i0 ≤ I) := hid (by rw [← HI.out]; exact scanUp_ge _ _ _ _)
                clear HI HJ
                rcases Nat.lt_or_ge J I with hlt | hge
                · have HPP : Hid ((J, d) = partLoop ltU a I0 J1 d1) := hid (by rw [← HL.out, HEQ.out, if_pos hlt])
                  go_wp2
                  go_meet
                  case rel => exact ⟨J, d, hJ1, hJ2, rfl, HR, HPP, HF⟩
                · have hIn : I < n := by omega
                  have hIn2 : (I : Int) < n := by omega
                  have hJn : J < n := by omega
                  have hJn2 : (J : Int) < n := by omega
                  have hcmp : (J < I) = False := by simp; omega
                  obtain ⟨J2, hJ2e⟩ : ∃ J2, J2 + 1 = J := ⟨J - 1, by omega⟩
                  have hwI : IntKind.i64.wrap ((I : Int) + 1) = ((I + 1 : Nat) : Int) := i64v _ (by omega) (by omega)
                  have hwJ : IntKind.i64.wrap ((J : Int) - 1) = (J2 : Int) := i64v _ (by omega) (by omega)
                  have hJ2a : a ≤ J2 := by omega
                  have hJ2b : J2 < b := by omega
                  have hI1b : I + 1 ≤ b := by omega
                  have hgrow : i0 ≤ I := HGR.out
                  obtain ⟨zI, HzI, HCzI⟩ := cellV (B := B) (g := g) (n := n) (cap := cap) d I (by omega)
                  obtain ⟨zJ, HzJ, HCzJ⟩ := cellV (B := B) (g := g) (n := n) (cap := cap) d J (by omega)
                  have HPP : Hid (partLoop ltU a (I + 1) J2 (swp d I J) = partLoop ltU a I0 J1 d1) := hid (by rw [← HL.out, HEQ.out, if_neg (by omega), show J - 1 = J2 by omega])
                  clear hJ2e
                  go_wp2_with fail
                  refine ParE.wp_region_e (l := [_, _, _, _, _, _, _, _, _, _, _, _, _, _, _, _]) rfl (Rg.Ch [13, 15] [] (SwV _ B g n cap I J zI zJ d)) (ParC.VC [ParC.EQ (Value.slice (some ⟨g, 0, none⟩) n cap), ParC.EQ (Value.int IntKind.i64 (I : Int)), ParC.EQ (Value.slice (some ⟨g, 0, none⟩) n cap), ParC.EQ (Value.int IntKind.i64 (J : Int)), ParC.EQ (Value.slice (some ⟨g, 0, none⟩) n cap), ParC.EQ (Value.int IntKind.i64 (J : Int)), ParC.EQ (Value.pointer (some ⟨g, J, none⟩)), ParC.EQ (uv zJ), ParC.EQ (Value.slice (some ⟨g, 0, none⟩) n cap), ParC.EQ (Value.int IntKind.i64 (I : Int)), ParC.EQ (Value.pointer (some ⟨g, I, none⟩)), ParC.EQ (uv zI), ParC.EQ (Value.pointer (some ⟨g, I, none⟩)), fun _ => True, ParC.EQ (Value.pointer (some ⟨g, J, none⟩)), fun _ => True]) (by kernel_rfl) (by kernel_rfl) (Rg.Ch.start ⟨fun _ => Ext.draw _, trivial⟩) ?_ ?_
                  · refine ⟨fun L ρ w' hR hC hL hd hk => ?_, ?_⟩
                    · exact Par.val_of_run rfl ⟨hR.other (by decide), hk.1⟩
                    refine ⟨fun L ρ w' hR hC hL hd hk => ?_, ?_⟩
                    · exact Par.val_of_run rfl ⟨hR.other (by decide), hk.1⟩
                    refine ⟨fun L ρ w' hR hC hL hd hk => ?_, ?_⟩
                    · exact Par.val_of_run rfl ⟨hR.other (by decide), hk.1⟩
                    refine ⟨fun L ρ w' hR hC hL hd hk => ?_, ?_⟩
                    · exact Par.val_of_run rfl ⟨hR.other (by decide), hk.1⟩
                    refine ⟨fun L ρ w' hR hC hL hd hk => ?_, ?_⟩
                    · exact Par.val_of_run rfl ⟨hR.other (by decide), hk.1⟩
                    refine ⟨fun L ρ w' hR hC hL hd hk => ?_, ?_⟩
                    · exact Par.val_of_run rfl ⟨hR.other (by decide), hk.1⟩
                    refine ⟨fun L ρ w' hR hC hL hd hk => ?_, ?_⟩
                    · obtain ⟨k0, k1, -⟩ := hk
                      have e0 : ρ (.tmp 139) = Value.slice (some ⟨g, 0, none⟩) n cap := k0
                      have e1 : ρ (.tmp 140) = Value.int IntKind.i64 (J : Int) := k1
                      clear k0 k1
                      refine Par.val_k fun K hK => ?_
                      unfold Par.val
                      (go_simp; exact hK _ _ ⟨hR.other (by decide), rfl⟩)
                    refine ⟨fun L ρ w' hR hC hL hd hk => ?_, ?_⟩
                    · obtain ⟨k0, -⟩ := hk
                      have e0 : ρ (.tmp 141) = Value.pointer (some ⟨g, J, none⟩) := k0
                      clear k0
                      refine Par.val_k fun K hK => ?_
                      unfold Par.val
                      (obtain ⟨ii, hii, hq⟩ := hR.some 0 rfl (hC.notyet 13 7 hL (by kernel_rfl)); have cc := HCzJ.out _ (RA.ext (hq.1 (by omega)) HR.out); go_simp; exact hK _ _ ⟨hR.other (by decide), rfl⟩)
                    refine ⟨fun L ρ w' hR hC hL hd hk => ?_, ?_⟩
                    · exact Par.val_of_run rfl ⟨hR.other (by decide), hk.1⟩
                    refine ⟨fun L ρ w' hR hC hL hd hk => ?_, ?_⟩
                    · exact Par.val_of_run rfl ⟨hR.other (by decide), hk.1⟩
                    refine ⟨fun L ρ w' hR hC hL hd hk => ?_, ?_⟩
                    · obtain ⟨k0, k1, -⟩ := hk
                      have e0 : ρ (.tmp 143) = Value.slice (some ⟨g, 0, none⟩) n cap := k0
                      have e1 : ρ (.tmp 144) = Value.int IntKind.i64 (I : Int) := k1
                      clear k0 k1
                      refine Par.val_k fun K hK => ?_
                      unfold Par.val
                      (go_simp; exact hK _ _ ⟨hR.other (by decide), rfl⟩)
                    refine ⟨fun L ρ w' hR hC hL hd hk => ?_, ?_⟩
                    · obtain ⟨k0, -⟩ := hk
                      have e0 : ρ (.tmp 145) = Value.pointer (some ⟨g, I, none⟩) := k0
                      clear k0
                      refine Par.val_k fun K hK => ?_
                      unfold Par.val
                      (obtain ⟨ii, hii, hq⟩ := hR.some 0 rfl (hC.notyet 13 11 hL (by kernel_rfl)); have cc := HCzI.out _ (RA.ext (hq.1 (by omega)) HR.out); go_simp; exact hK _ _ ⟨hR.other (by decide), rfl⟩)
                    refine ⟨fun L ρ w' hR hC hL hd hk => ?_, ?_⟩
                    · obtain ⟨k0, k1, -⟩ := hk
                      have e0 : ρ (.tmp 135) = Value.slice (some ⟨g, 0, none⟩) n cap := k0
                      have e1 : ρ (.tmp 136) = Value.int IntKind.i64 (I : Int) := k1
                      clear k0 k1
                      refine Par.val_k fun K hK => ?_
                      unfold Par.val
                      (go_simp; exact hK _ _ ⟨hR.other (by decide), rfl⟩)
                    refine ⟨fun L ρ w' hR hC hL hd hk => ?_, ?_⟩
                    · obtain ⟨k0, k1, -⟩ := hk
                      have e0 : ρ (.tmp 147) = Value.pointer (some ⟨g, I, none⟩) := k0
                      have e1 : ρ (.tmp 142) = uv zJ := k1
                      clear k0 k1
                      refine Par.val_k fun K hK => ?_
                      unfold Par.val
                      (obtain ⟨hq, hs⟩ := hR.go 0 rfl hL (.inl rfl) (by decide); have hx := hq.1 (by decide); have hrow := RA.ext hx HR.out; obtain ⟨cc, ff⟩ := hrow.at (j := I) (by omega); obtain ⟨hset, hfs⟩ := hrow.set I zJ; have HSET := hid hset; have HFS := hid hfs; clear hset hfs hrow; go_simp; exact hK _ _ ⟨hs none _ _ ⟨fun h => absurd h (by decide), HSET.out, (Ext.fr hx).trans HFS.out⟩, trivial⟩)
                    refine ⟨fun L ρ w' hR hC hL hd hk => ?_, ?_⟩
                    · obtain ⟨k0, k1, -⟩ := hk
                      have e0 : ρ (.tmp 137) = Value.slice (some ⟨g, 0, none⟩) n cap := k0
                      have e1 : ρ (.tmp 138) = Value.int IntKind.i64 (J : Int) := k1
                      clear k0 k1
                      refine Par.val_k fun K hK => ?_
                      unfold Par.val
                      (go_simp; exact hK _ _ ⟨hR.other (by decide), rfl⟩)
                    refine ⟨fun L ρ w' hR hC hL hd hk => ?_, ?_⟩
                    · obtain ⟨k0, k1, -⟩ := hk
                      have e0 : ρ (.tmp 148) = Value.pointer (some ⟨g, J, none⟩) := k0
                      have e1 : ρ (.tmp 146) = uv zI := k1
                      clear k0 k1
                      refine Par.val_k fun K hK => ?_
                      unfold Par.val
                      (obtain ⟨hq, hs⟩ := hR.go 1 rfl hL (.inr ⟨13, rfl, hC.before 13 (i := 15) rfl hd (by kernel_rfl)⟩) (by decide); obtain ⟨hrow, hfr⟩ := hq.2; obtain ⟨cc, ff⟩ := hrow.at (j := J) (by omega); obtain ⟨hset, hfs⟩ := hrow.set J zI; have HSET := hid hset; have HFS := hid hfs; have HFR := hid hfr; clear hset hfs hrow hfr; go_simp; exact hK _ _ ⟨hs none _ _ ⟨fun h => absurd h (by decide), HSET.out, HFR.out.trans HFS.out⟩, trivial⟩)
                    trivial
                  intro a' w' inv hR
                  have q135 : a'.tmps.getD 135 undef = Value.slice (some ⟨g, 0, none⟩) n cap := inv.done 0 _ 135 rfl rfl rfl
                  have q136 : a'.tmps.getD 136 undef = Value.int IntKind.i64 (I : Int) := inv.done 1 _ 136 rfl rfl rfl
                  have q137 : a'.tmps.getD 137 undef = Value.slice (some ⟨g, 0, none⟩) n cap := inv.done 2 _ 137 rfl rfl rfl
                  have q138 : a'.tmps.getD 138 undef = Value.int IntKind.i64 (J : Int) := inv.done 3 _ 138 rfl rfl rfl
                  have q139 : a'.tmps.getD 139 undef = Value.slice (some ⟨g, 0, none⟩) n cap := inv.done 4 _ 139 rfl rfl rfl
                  have q140 : a'.tmps.getD 140 undef = Value.int IntKind.i64 (J : Int) := inv.done 5 _ 140 rfl rfl rfl
                  have q141 : a'.tmps.getD 141 undef = Value.pointer (some ⟨g, J, none⟩) := inv.done 6 _ 141 rfl rfl rfl
                  have q142 : a'.tmps.getD 142 undef = uv zJ := inv.done 7 _ 142 rfl rfl rfl
                  have q143 : a'.tmps.getD 143 undef = Value.slice (some ⟨g, 0, none⟩) n cap := inv.done 8 _ 143 rfl rfl rfl
                  have q144 : a'.tmps.getD 144 undef = Value.int IntKind.i64 (I : Int) := inv.done 9 _ 144 rfl rfl rfl
                  have q145 : a'.tmps.getD 145 undef = Value.pointer (some ⟨g, I, none⟩) := inv.done 10 _ 145 rfl rfl rfl
                  have q146 : a'.tmps.getD 146 undef = uv zI := inv.done 11 _ 146 rfl rfl rfl
                  have q147 : a'.tmps.getD 147 undef = Value.pointer (some ⟨g, I, none⟩) := inv.done 12 _ 147 rfl rfl rfl
                  have q148 : a'.tmps.getD 148 undef = Value.pointer (some ⟨g, J, none⟩) := inv.done 14 _ 148 rfl rfl rfl
                  clear inv
                  simp only [List.filterMap_cons, List.filterMap_nil, Par.putAll, Act.put, List.setIfInBounds_toArray, List.set_cons_succ, List.set_cons_zero, q135, q136, q137, q138, q139, q140, q141, q142, q143, q144, q145, q146, q147, q148]
                  clear q135 q136 q137 q138 q139 q140 q141 q142 q143 q144 q145 q146 q147 q148
                  obtain ⟨-, hrd, hf⟩ := Rg.Ch.fin hR (by decide) 2 rfl; have HRD := hid hrd; have HF4 := hid hf; clear hrd hf hR
                  try clear a'
                  have HR3 := hid (RA.swp HzI HzJ HRD.out)
                  have HF3 := hid (HF.out.trans HF4.out)
                  clear HRD HF4 HR HF
                  have HR := HR3
                  have HF := HF3
                  clear HR3 HF3
                  go_wp2
                  go_roundw
                  case rel => exact ⟨I + 1, J2, swp d I J, by omega, hI1b, hJ2a, hJ2b, by first | rfl | go_num, by first | rfl | go_num, HR, HPP, HF⟩
                  case measure => simp [intOf] <;> omega
        case rest =>
          clear HR HF
          obtain ⟨J, d, hJ1, hJ2, rfl, HR, HPP, HF⟩ := hcut
          have hJn : J < n := by omega
          have hJn2 : (J : Int) < n := by omega
          obtain ⟨za, Hza, HCza⟩ := cellV (B := B) (g := g) (n := n) (cap := cap) d a (by omega)
          obtain ⟨zJ, HzJ, HCzJ⟩ := cellV (B := B) (g := g) (n := n) (cap := cap) d J (by omega)
          have HDD : Hid (D = (J, false, swp d J a)) := hid (by rw [HPL2.out, ← HPP.out])
          go_wp2_with fail
          refine ParE.wp_region_e (l := [_, _, _, _, _, _, _, _, _, _, _, _, _, _, _, _]) rfl (Rg.Ch [13, 15] [] (SwV _ B g n cap J a zJ za d)) (ParC.VC [ParC.EQ (Value.slice (some ⟨g, 0, none⟩) n cap), ParC.EQ (Value.int IntKind.i64 (J : Int)), ParC.EQ (Value.slice (some ⟨g, 0, none⟩) n cap), ParC.EQ (Value.int IntKind.i64 (a : Int)), ParC.EQ (Value.slice (some ⟨g, 0, none⟩) n cap), ParC.EQ (Value.int IntKind.i64 (a : Int)), ParC.EQ (Value.pointer (some ⟨g, a, none⟩)), ParC.EQ (uv za), ParC.EQ (Value.slice (some ⟨g, 0, none⟩) n cap), ParC.EQ (Value.int IntKind.i64 (J : Int)), ParC.EQ (Value.pointer (some ⟨g, J, none⟩)), ParC.EQ (uv zJ), ParC.EQ (Value.pointer (some ⟨g, J, none⟩)), fun _ => True, ParC.EQ (Value.pointer (some ⟨g, a, none⟩)), fun _ => True]) (by kernel_rfl) (by kernel_rfl) (Rg.Ch.start ⟨fun _ => Ext.draw _, trivial⟩) ?_ ?_
          · refine ⟨fun L ρ w' hR hC hL hd hk => ?_, ?_⟩
            · exact Par.val_of_run rfl ⟨hR.other (by decide), hk.1⟩
            refine ⟨fun L ρ w' hR hC hL hd hk => ?_, ?_⟩
            · exact Par.val_of_run rfl ⟨hR.other (by decide), hk.1⟩
            refine ⟨fun L ρ w' hR hC hL hd hk => ?_, ?_⟩
            · exact Par.val_of_run rfl ⟨hR.other (by decide), hk.1⟩
            refine ⟨fun L ρ w' hR hC hL hd hk => ?_, ?_⟩
            · exact Par.val_of_run rfl ⟨hR.other (by decide), hk.1⟩
            refine ⟨fun L ρ w' hR hC hL hd hk => ?_, ?_⟩
            · exact Par.val_of_run rfl ⟨hR.other (by decide), hk.1⟩
            refine ⟨fun L ρ w' hR hC hL hd hk => ?_, ?_⟩
            · exact Par.val_of_run rfl ⟨hR.other (by decide), hk.1⟩
            refine ⟨fun L ρ w' hR hC hL hd hk => ?_, ?_⟩
            · obtain ⟨k0, k1, -⟩ := hk
              have e0 : ρ (.tmp 157) = Value.slice (some ⟨g, 0, none⟩) n cap := k0
              have e1 : ρ (.tmp 158) = Value.int IntKind.i64 (a : Int) := k1
              clear k0 k1
              refine Par.val_k fun K hK => ?_
              unfold Par.val
              (go_simp; exact hK _ _ ⟨hR.other (by decide), rfl⟩)
            refine ⟨fun L ρ w' hR hC hL hd hk => ?_, ?_⟩
            · obtain ⟨k0, -⟩ := hk
              have e0 : ρ (.tmp 159) = Value.pointer (some ⟨g, a, none⟩) := k0
              clear k0
              refine Par.val_k fun K hK => ?_
              unfold Par.val
              (obtain ⟨ii, hii, hq⟩ := hR.some 0 rfl (hC.notyet 13 7 hL (by kernel_rfl)); have cc := HCza.out _ (RA.ext (hq.1 (by omega)) HR.out); go_simp; exact hK _ _ ⟨hR.other (by decide), rfl⟩)
            refine ⟨fun L ρ w' hR hC hL hd hk => ?_, ?_⟩
            · exact Par.val_of_run rfl ⟨hR.other (by decide), hk.1⟩
            refine ⟨fun L ρ w' hR hC hL hd hk => ?_, ?_⟩
            · exact Par.val_of_run rfl ⟨hR.other (by decide), hk.1⟩
            refine ⟨fun L ρ w' hR hC hL hd hk => ?_, ?_⟩
            · obtain ⟨k0, k1, -⟩ := hk
              have e0 : ρ (.tmp 161) = Value.slice (some ⟨g, 0, none⟩) n cap := k0
              have e1 : ρ (.tmp 162) = Value.int IntKind.i64 (J : Int) := k1
              clear k0 k1
              refine Par.val_k fun K hK => ?_
              unfold Par.val
              (go_simp; exact hK _ _ ⟨hR.other (by decide), rfl⟩)
            refine ⟨fun L ρ w' hR hC hL hd hk => ?_, ?_⟩
            · obtain ⟨k0, -⟩ := hk
              have e0 : ρ (.tmp 163) = Value.pointer (some ⟨g, J, none⟩) := k0
              clear k0
              refine Par.val_k fun K hK => ?_
              unfold Par.val
              (obtain ⟨ii, hii, hq⟩ := hR.some 0 rfl (hC.notyet 13 11 hL (by kernel_rfl)); have cc := HCzJ.out _ (RA.ext (hq.1 (by omega)) HR.out); go_simp; exact hK _ _ ⟨hR.other (by decide), rfl⟩)
            refine ⟨fun L ρ w' hR hC hL hd hk => ?_, ?_⟩
            · obtain ⟨k0, k1, -⟩ := hk
              have e0 : ρ (.tmp 153) = Value.slice (some ⟨g, 0, none⟩) n cap := k0
              have e1 : ρ (.tmp 154) = Value.int IntKind.i64 (J : Int) := k1
              clear k0 k1
              refine Par.val_k fun K hK => ?_
              unfold Par.val
              (go_simp; exact hK _ _ ⟨hR.other (by decide), rfl⟩)
            refine ⟨fun L ρ w' hR hC hL hd hk => ?_, ?_⟩
            · obtain ⟨k0, k1, -⟩ := hk
              have e0 : ρ (.tmp 165) = Value.pointer (some ⟨g, J, none⟩) := k0
              have e1 : ρ (.tmp 160) = uv za := k1
              clear k0 k1
              refine Par.val_k fun K hK => ?_
              unfold Par.val
              (obtain ⟨hq, hs⟩ := hR.go 0 rfl hL (.inl rfl) (by decide); have hx := hq.1 (by decide); have hrow := RA.ext hx HR.out; obtain ⟨cc, ff⟩ := hrow.at (j := J) (by omega); obtain ⟨hset, hfs⟩ := hrow.set J za; have HSET := hid hset; have HFS := hid hfs; clear hset hfs hrow; go_simp; exact hK _ _ ⟨hs none _ _ ⟨fun h => absurd h (by decide), HSET.out, (Ext.fr hx).trans HFS.out⟩, trivial⟩)
            refine ⟨fun L ρ w' hR hC hL hd hk => ?_, ?_⟩
            · obtain ⟨k0, k1, -⟩ := hk
              have e0 : ρ (.tmp 155) = Value.slice (some ⟨g, 0, none⟩) n cap := k0
              have e1 : ρ (.tmp 156) = Value.int IntKind.i64 (a : Int) := k1
              clear k0 k1
              refine Par.val_k fun K hK => ?_
              unfold Par.val
              (go_simp; exact hK _ _ ⟨hR.other (by decide), rfl⟩)
            refine ⟨fun L ρ w' hR hC hL hd hk => ?_, ?_⟩
            · obtain ⟨k0, k1, -⟩ := hk
              have e0 : ρ (.tmp 166) = Value.pointer (some ⟨g, a, none⟩) := k0
              have e1 : ρ (.tmp 164) = uv zJ := k1
              clear k0 k1
              refine Par.val_k fun K hK => ?_
              unfold Par.val
              (obtain ⟨hq, hs⟩ := hR.go 1 rfl hL (.inr ⟨13, rfl, hC.before 13 (i := 15) rfl hd (by kernel_rfl)⟩) (by decide); obtain ⟨hrow, hfr⟩ := hq.2; obtain ⟨cc, ff⟩ := hrow.at (j := a) (by omega); obtain ⟨hset, hfs⟩ := hrow.set a zJ; have HSET := hid hset; have HFS := hid hfs; have HFR := hid hfr; clear hset hfs hrow hfr; go_simp; exact hK _ _ ⟨hs none _ _ ⟨fun h => absurd h (by decide), HSET.out, HFR.out.trans HFS.out⟩, trivial⟩)
            trivial
          intro a' w' inv hR
          have q153 : a'.tmps.getD 153 undef = Value.slice (some ⟨g, 0, none⟩) n cap := inv.done 0 _ 153 rfl rfl rfl
          have q154 : a'.tmps.getD 154 undef = Value.int IntKind.i64 (J : Int) := inv.done 1 _ 154 rfl rfl rfl
          have q155 : a'.tmps.getD 155 undef = Value.slice (some ⟨g, 0, none⟩) n cap := inv.done 2 _ 155 rfl rfl rfl
          have q156 : a'.tmps.getD 156 undef = Value.int IntKind.i64 (a : Int) := inv.done 3 _ 156 rfl rfl rfl
          have q157 : a'.tmps.getD 157 undef = Value.slice (some ⟨g, 0, none⟩) n cap := inv.done 4 _ 157 rfl rfl rfl
          have q158 : a'.tmps.getD 158 undef = Value.int IntKind.i64 (a : Int) := inv.done 5 _ 158 rfl rfl rfl
          have q159 : a'.tmps.getD 159 undef = Value.pointer (some ⟨g, a, none⟩) := inv.done 6 _ 159 rfl rfl rfl
          have q160 : a'.tmps.getD 160 undef = uv za := inv.done 7 _ 160 rfl rfl rfl
          have q161 : a'.tmps.getD 161 undef = Value.slice (some ⟨g, 0, none⟩) n cap := inv.done 8 _ 161 rfl rfl rfl
          have q162 : a'.tmps.getD 162 undef = Value.int IntKind.i64 (J : Int) := inv.done 9 _ 162 rfl rfl rfl
          have q163 : a'.tmps.getD 163 undef = Value.pointer (some ⟨g, J, none⟩) := inv.done 10 _ 163 rfl rfl rfl
          have q164 : a'.tmps.getD 164 undef = uv zJ := inv.done 11 _ 164 rfl rfl rfl
          have q165 : a'.tmps.getD 165 undef = Value.pointer (some ⟨g, J, none⟩) := inv.done 12 _ 165 rfl rfl rfl
          have q166 : a'.tmps.getD 166 undef = Value.pointer (some ⟨g, a, none⟩) := inv.done 14 _ 166 rfl rfl rfl
          clear inv
          simp only [List.filterMap_cons, List.filterMap_nil, Par.putAll, Act.put, List.setIfInBounds_toArray, List.set_cons_succ, List.set_cons_zero, q153, q154, q155, q156, q157, q158, q159, q160, q161, q162, q163, q164, q165, q166]
          clear q153 q154 q155 q156 q157 q158 q159 q160 q161 q162 q163 q164 q165 q166
          obtain ⟨-, hrd, hf⟩ := Rg.Ch.fin hR (by decide) 2 rfl; have HRD := hid hrd; have HF4 := hid hf; clear hrd hf hR
          try clear a'
          have HR3 := hid (RA.swp HzJ Hza HRD.out)
          have HF3 := hid (HF.out.trans HF4.out)
          clear HRD HF4 HR HF
          have HR := HR3
          have HF := HF3
          clear HR3 HF3
          go_wp2
          go_returns
          exact ⟨by rw [HDD.out]; rfl, by rw [HDD.out]; exact HR.out, HF.out⟩
end Go.Proofs.YtpbmbjdiilnaeaaDoor
