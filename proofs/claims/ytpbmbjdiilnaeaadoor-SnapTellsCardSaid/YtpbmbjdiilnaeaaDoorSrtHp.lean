/- heapSort of a part of a row of numbers. -/
import Derived.Test.YtpbmbjdiilnaeaaDoorSrtH
set_option linter.unusedSimpArgs false
set_option linter.unusedVariables false
namespace Go.Proofs.YtpbmbjdiilnaeaaDoor
open Go Go.RowKit Go.Tum Go.ChangeMaps Go.Sort
open Go.ParB (upd Lof)
open Go.ParE (putS slotsR slots Closed)

set_option maxRecDepth 100000 in
set_option maxHeartbeats 2000000 in
theorem heapV_any {B : Nat} {w : World} (g n cap a b : Nat) (d : Array UInt64) (h : RA w B g n cap d) (hab : a < b) (hbn : b ≤ n) (hbig : n ≤ 4611686018427387903) :
    Calls Tryd.prog 41 #[.slice (some ⟨g, 0, none⟩) n cap, .int .i64 (a : Int), .int .i64 (b : Int)] w fun e w' =>
      (∃ u, e = .returned u) ∧ RA w' B g n cap (heapSort ltU d a b) ∧ Fr [g] w w' := by
  obtain ⟨D, hD⟩ : ∃ D, heapSort ltU d a b = D := ⟨_, rfl⟩
  obtain ⟨h1, hh1⟩ : ∃ h1, h1 + 1 = b - a := ⟨b - a - 1, by omega⟩
  obtain ⟨hh, hhe⟩ : ∃ hh, hh = h1 + 1 := ⟨_, rfl⟩
  have HD : Hid (heapPop ltU a hh (heapBuild ltU hh a (h1 / 2 + 1) d) = D) := hid (by unfold heapSort at hD; rw [← hh1, show h1 + 1 - 1 = h1 by omega] at hD; rw [hhe]; exact hD)
  rw [hD]
  have H0 := hid h
  obtain ⟨hcap1, hcap2⟩ := h.bound
  clear h hD
  have hwb : IntKind.i64.wrap ((b : Int) - (a : Int)) = (hh : Int) := i64v _ (by omega) (by omega)
  have hwh : IntKind.i64.wrap ((hh : Int) - 1) = (h1 : Int) := i64v _ (by omega) (by omega)
  have hwq : IntKind.i64.wrap ((h1 : Int) / 2) = ((h1 / 2 : Nat) : Int) := i64v _ (by omega) (by omega)
  have hahn : a + hh ≤ n := by omega
  have hh1n : h1 + 1 ≤ n := by omega
  have HE := hid (And.intro hh1 hhe)
  clear hhe hh1
  go_enter Tryd.func41, Tryd.ntmps41
  go_wp2
  go_loopw [9] (fun iv wr => ∃ (k : Nat) (e : Array UInt64), k ≤ n ∧ iv = .int .i64 ((k : Int) - 1) ∧ Hid (RA wr B g n cap e) ∧ Hid (heapPop ltU a hh (heapBuild ltU hh a k e) = D) ∧ Hid (Fr [g] w wr)) (fun iv _ => (intOf iv + 1).toNat)
  case atStart => exact ⟨h1 / 2 + 1, d, by omega, by first | rfl | (congr 1; push_cast; omega) | go_num, H0, HD, hid (Fr.refl _ _)⟩
  case round =>
    clear H0 HD
    obtain ⟨k, d, hkn, rfl, HR, HO, HF⟩ := hrel
    rcases Nat.eq_zero_or_pos k with rfl | hk
    · have HO2 : Hid (heapPop ltU a hh d = D) := HO
      clear HO
      rw [show ((0 : Nat) : Int) - 1 = -1 from rfl]
      go_wp2
      go_loopw [10] (fun iv wr => ∃ (k : Nat) (e : Array UInt64), k ≤ hh ∧ iv = .int .i64 ((k : Int) - 1) ∧ Hid (RA wr B g n cap e) ∧ Hid (heapPop ltU a k e = D) ∧ Hid (Fr [g] w wr)) (fun iv _ => (intOf iv + 1).toNat)
      case atStart => exact ⟨hh, d, Nat.le_refl _, by first | rfl | exact congrArg _ (by have := HE.out.2; omega) | go_num, HR, HO2, HF⟩
      case round =>
        clear HO2 HR HF
        obtain ⟨k, d, hkh, rfl, HR, HO, HF⟩ := hrel
        rcases Nat.eq_zero_or_pos k with rfl | hk
        · have HO2 : Hid (d = D) := HO
          go_wp2
          go_returns
          exact ⟨⟨_, rfl⟩, by have := HR.out; rw [HO2.out] at this; exact this, HF.out⟩
        · obtain ⟨k, rfl⟩ : ∃ i, k = i + 1 := ⟨k - 1, by omega⟩
          have ek : ((k + 1 : Nat) : Int) - 1 = (k : Int) := by omega
          rw [ek]
          have hwk : IntKind.i64.wrap ((k : Int) - 1) = (k : Int) - 1 := IntWalk.i64_in _ (by omega)
          obtain ⟨p, hp⟩ : ∃ p, p = a + k := ⟨_, rfl⟩
          have hwp : IntKind.i64.wrap ((a : Int) + (k : Int)) = (p : Int) := i64v _ (by omega) (by omega)
          have han : a < n := by omega
          have han2 : (a : Int) < n := by omega
          have hpn : p < n := by omega
          have hpn2 : (p : Int) < n := by omega
          have hkn2 : a + k ≤ n := by omega
          obtain ⟨za, Hza, HCza⟩ := cellV (B := B) (g := g) (n := n) (cap := cap) d a (by omega)
          obtain ⟨zp, Hzp, HCzp⟩ := cellV (B := B) (g := g) (n := n) (cap := cap) d p (by omega)
          have HP := hid hp
          have HO3 : Hid (heapPop ltU a k (siftDown ltU k a 0 (swp d a p)) = D) := hid (by rw [hp]; exact HO.out)
          clear hp ek
          go_wp2_with fail
          refine ParE.wp_region_e (l := [_, _, _, _, _, _, _, _, _, _, _, _, _, _, _, _, _, _, _, _]) rfl (Rg.Ch [17, 19] [] (SwV _ B g n cap a p za zp d)) (ParC.VC [ParC.EQ (Value.slice (some ⟨g, 0, none⟩) n cap), ParC.EQ (Value.int IntKind.i64 (a : Int)), ParC.EQ (Value.slice (some ⟨g, 0, none⟩) n cap), ParC.EQ (Value.int IntKind.i64 (a : Int)), ParC.EQ (Value.int IntKind.i64 (k : Int)), ParC.EQ (Value.int IntKind.i64 (p : Int)), ParC.EQ (Value.slice (some ⟨g, 0, none⟩) n cap), ParC.EQ (Value.int IntKind.i64 (a : Int)), ParC.EQ (Value.int IntKind.i64 (k : Int)), ParC.EQ (Value.int IntKind.i64 (p : Int)), ParC.EQ (Value.pointer (some ⟨g, p, none⟩)), ParC.EQ (uv zp), ParC.EQ (Value.slice (some ⟨g, 0, none⟩) n cap), ParC.EQ (Value.int IntKind.i64 (a : Int)), ParC.EQ (Value.pointer (some ⟨g, a, none⟩)), ParC.EQ (uv za), ParC.EQ (Value.pointer (some ⟨g, a, none⟩)), fun _ => True, ParC.EQ (Value.pointer (some ⟨g, p, none⟩)), fun _ => True]) (by kernel_rfl) (by kernel_rfl) (Rg.Ch.start ⟨fun _ => Ext.draw _, trivial⟩) ?_ ?_
          · refine ⟨fun L ρ w' hR hC hL hd hk => ?_, ?_⟩
            · exact Par.val_of_run rfl ⟨hR.other (by decide), hk.1⟩
            refine ⟨fun L ρ w' hR hC hL hd hk => ?_, ?_⟩
            · exact Par.val_of_run rfl ⟨hR.other (by decide), hk.1⟩
            refine ⟨fun L ρ w' hR hC hL hd hk => ?_, ?_⟩
            · exact Par.val_of_run rfl ⟨hR.other (by decide), hk.1⟩
            refine ⟨fun L ρ w' hR hC hL hd hk => ?_, ?_⟩
            · exact Par.val_of_run rfl ⟨hR.other (by decide), hk.1⟩
            refine ⟨fun L ρ w' hR hC hL hd hk => ?_, ?_⟩
            · exact Par.val_of_run rfl ⟨hR.other (by decide), hk.1⟩
            refine ⟨fun L ρ w' hR hC hL hd hk => ?_, ?_⟩
            · obtain ⟨k0, k1, -⟩ := hk
              have e0 : ρ (.tmp 36) = Value.int IntKind.i64 (a : Int) := k0
              have e1 : ρ (.tmp 37) = Value.int IntKind.i64 (k : Int) := k1
              clear k0 k1
              refine Par.val_k fun K hK => ?_
              unfold Par.val
              (go_simp; exact hK _ _ ⟨hR.other (by decide), rfl⟩)
            refine ⟨fun L ρ w' hR hC hL hd hk => ?_, ?_⟩
            · exact Par.val_of_run rfl ⟨hR.other (by decide), hk.1⟩
            refine ⟨fun L ρ w' hR hC hL hd hk => ?_, ?_⟩
            · exact Par.val_of_run rfl ⟨hR.other (by decide), hk.1⟩
            refine ⟨fun L ρ w' hR hC hL hd hk => ?_, ?_⟩
            · exact Par.val_of_run rfl ⟨hR.other (by decide), hk.1⟩
            refine ⟨fun L ρ w' hR hC hL hd hk => ?_, ?_⟩
            · obtain ⟨k0, k1, -⟩ := hk
              have e0 : ρ (.tmp 40) = Value.int IntKind.i64 (a : Int) := k0
              have e1 : ρ (.tmp 41) = Value.int IntKind.i64 (k : Int) := k1
              clear k0 k1
              refine Par.val_k fun K hK => ?_
              unfold Par.val
              (go_simp; exact hK _ _ ⟨hR.other (by decide), rfl⟩)
            refine ⟨fun L ρ w' hR hC hL hd hk => ?_, ?_⟩
            · obtain ⟨k0, k1, -⟩ := hk
              have e0 : ρ (.tmp 39) = Value.slice (some ⟨g, 0, none⟩) n cap := k0
              have e1 : ρ (.tmp 42) = Value.int IntKind.i64 (p : Int) := k1
              clear k0 k1
              refine Par.val_k fun K hK => ?_
              unfold Par.val
              (go_simp; exact hK _ _ ⟨hR.other (by decide), rfl⟩)
            refine ⟨fun L ρ w' hR hC hL hd hk => ?_, ?_⟩
            · obtain ⟨k0, -⟩ := hk
              have e0 : ρ (.tmp 43) = Value.pointer (some ⟨g, p, none⟩) := k0
              clear k0
              refine Par.val_k fun K hK => ?_
              unfold Par.val
              (obtain ⟨ii, hii, hq⟩ := hR.some 0 rfl (hC.notyet 17 11 hL (by kernel_rfl)); have cc := HCzp.out _ (RA.ext (hq.1 (by omega)) HR.out); go_simp; exact hK _ _ ⟨hR.other (by decide), rfl⟩)
            refine ⟨fun L ρ w' hR hC hL hd hk => ?_, ?_⟩
            · exact Par.val_of_run rfl ⟨hR.other (by decide), hk.1⟩
            refine ⟨fun L ρ w' hR hC hL hd hk => ?_, ?_⟩
            · exact Par.val_of_run rfl ⟨hR.other (by decide), hk.1⟩
            refine ⟨fun L ρ w' hR hC hL hd hk => ?_, ?_⟩
            · obtain ⟨k0, k1, -⟩ := hk
              have e0 : ρ (.tmp 45) = Value.slice (some ⟨g, 0, none⟩) n cap := k0
              have e1 : ρ (.tmp 46) = Value.int IntKind.i64 (a : Int) := k1
              clear k0 k1
              refine Par.val_k fun K hK => ?_
              unfold Par.val
              (go_simp; exact hK _ _ ⟨hR.other (by decide), rfl⟩)
            refine ⟨fun L ρ w' hR hC hL hd hk => ?_, ?_⟩
            · obtain ⟨k0, -⟩ := hk
              have e0 : ρ (.tmp 47) = Value.pointer (some ⟨g, a, none⟩) := k0
              clear k0
              refine Par.val_k fun K hK => ?_
              unfold Par.val
              (obtain ⟨ii, hii, hq⟩ := hR.some 0 rfl (hC.notyet 17 15 hL (by kernel_rfl)); have cc := HCza.out _ (RA.ext (hq.1 (by omega)) HR.out); go_simp; exact hK _ _ ⟨hR.other (by decide), rfl⟩)
            refine ⟨fun L ρ w' hR hC hL hd hk => ?_, ?_⟩
            · obtain ⟨k0, k1, -⟩ := hk
              have e0 : ρ (.tmp 33) = Value.slice (some ⟨g, 0, none⟩) n cap := k0
              have e1 : ρ (.tmp 34) = Value.int IntKind.i64 (a : Int) := k1
              clear k0 k1
              refine Par.val_k fun K hK => ?_
              unfold Par.val
              (go_simp; exact hK _ _ ⟨hR.other (by decide), rfl⟩)
            refine ⟨fun L ρ w' hR hC hL hd hk => ?_, ?_⟩
            · obtain ⟨k0, k1, -⟩ := hk
              have e0 : ρ (.tmp 49) = Value.pointer (some ⟨g, a, none⟩) := k0
              have e1 : ρ (.tmp 44) = uv zp := k1
              clear k0 k1
              refine Par.val_k fun K hK => ?_
              unfold Par.val
              (obtain ⟨hq, hs⟩ := hR.go 0 rfl hL (.inl rfl) (by decide); have hx := hq.1 (by decide); have hrow := RA.ext hx HR.out; obtain ⟨cc, ff⟩ := hrow.at (j := a) (by omega); obtain ⟨hset, hfs⟩ := hrow.set a zp; have HSET := hid hset; have HFS := hid hfs; clear hset hfs hrow; go_simp; exact hK _ _ ⟨hs none _ _ ⟨fun h => absurd h (by decide), HSET.out, (Ext.fr hx).trans HFS.out⟩, trivial⟩)
            refine ⟨fun L ρ w' hR hC hL hd hk => ?_, ?_⟩
            · obtain ⟨k0, k1, -⟩ := hk
              have e0 : ρ (.tmp 35) = Value.slice (some ⟨g, 0, none⟩) n cap := k0
              have e1 : ρ (.tmp 38) = Value.int IntKind.i64 (p : Int) := k1
              clear k0 k1
              refine Par.val_k fun K hK => ?_
              unfold Par.val
              (go_simp; exact hK _ _ ⟨hR.other (by decide), rfl⟩)
            refine ⟨fun L ρ w' hR hC hL hd hk => ?_, ?_⟩
            · obtain ⟨k0, k1, -⟩ := hk
              have e0 : ρ (.tmp 50) = Value.pointer (some ⟨g, p, none⟩) := k0
              have e1 : ρ (.tmp 48) = uv za := k1
              clear k0 k1
              refine Par.val_k fun K hK => ?_
              unfold Par.val
              (obtain ⟨hq, hs⟩ := hR.go 1 rfl hL (.inr ⟨17, rfl, hC.before 17 (i := 19) rfl hd (by kernel_rfl)⟩) (by decide); obtain ⟨hrow, hfr⟩ := hq.2; obtain ⟨cc, ff⟩ := hrow.at (j := p) (by omega); obtain ⟨hset, hfs⟩ := hrow.set p za; have HSET := hid hset; have HFS := hid hfs; have HFR := hid hfr; clear hset hfs hrow hfr; go_simp; exact hK _ _ ⟨hs none _ _ ⟨fun h => absurd h (by decide), HSET.out, HFR.out.trans HFS.out⟩, trivial⟩)
            trivial
          intro a' w' inv hR
          have q33 : a'.tmps.getD 33 undef = Value.slice (some ⟨g, 0, none⟩) n cap := inv.done 0 _ 33 rfl rfl rfl
          have q34 : a'.tmps.getD 34 undef = Value.int IntKind.i64 (a : Int) := inv.done 1 _ 34 rfl rfl rfl
          have q35 : a'.tmps.getD 35 undef = Value.slice (some ⟨g, 0, none⟩) n cap := inv.done 2 _ 35 rfl rfl rfl
          have q36 : a'.tmps.getD 36 undef = Value.int IntKind.i64 (a : Int) := inv.done 3 _ 36 rfl rfl rfl
          have q37 : a'.tmps.getD 37 undef = Value.int IntKind.i64 (k : Int) := inv.done 4 _ 37 rfl rfl rfl
          have q38 : a'.tmps.getD 38 undef = Value.int IntKind.i64 (p : Int) := inv.done 5 _ 38 rfl rfl rfl
          have q39 : a'.tmps.getD 39 undef = Value.slice (some ⟨g, 0, none⟩) n cap := inv.done 6 _ 39 rfl rfl rfl
          have q40 : a'.tmps.getD 40 undef = Value.int IntKind.i64 (a : Int) := inv.done 7 _ 40 rfl rfl rfl
          have q41 : a'.tmps.getD 41 undef = Value.int IntKind.i64 (k : Int) := inv.done 8 _ 41 rfl rfl rfl
          have q42 : a'.tmps.getD 42 undef = Value.int IntKind.i64 (p : Int) := inv.done 9 _ 42 rfl rfl rfl
          have q43 : a'.tmps.getD 43 undef = Value.pointer (some ⟨g, p, none⟩) := inv.done 10 _ 43 rfl rfl rfl
          have q44 : a'.tmps.getD 44 undef = uv zp := inv.done 11 _ 44 rfl rfl rfl
          have q45 : a'.tmps.getD 45 undef = Value.slice (some ⟨g, 0, none⟩) n cap := inv.done 12 _ 45 rfl rfl rfl
          have q46 : a'.tmps.getD 46 undef = Value.int IntKind.i64 (a : Int) := inv.done 13 _ 46 rfl rfl rfl
          have q47 : a'.tmps.getD 47 undef = Value.pointer (some ⟨g, a, none⟩) := inv.done 14 _ 47 rfl rfl rfl
          have q48 : a'.tmps.getD 48 undef = uv za := inv.done 15 _ 48 rfl rfl rfl
          have q49 : a'.tmps.getD 49 undef = Value.pointer (some ⟨g, a, none⟩) := inv.done 16 _ 49 rfl rfl rfl
          have q50 : a'.tmps.getD 50 undef = Value.pointer (some ⟨g, p, none⟩) := inv.done 18 _ 50 rfl rfl rfl
          clear inv
          simp only [List.filterMap_cons, List.filterMap_nil, Par.putAll, Act.put, List.setIfInBounds_toArray, List.set_cons_succ, List.set_cons_zero, q33, q34, q35, q36, q37, q38, q39, q40, q41, q42, q43, q44, q45, q46, q47, q48, q49, q50]
          clear q33 q34 q35 q36 q37 q38 q39 q40 q41 q42 q43 q44 q45 q46 q47 q48 q49 q50
          obtain ⟨-, hrd, hf⟩ := Rg.Ch.fin hR (by decide) 2 rfl; have HRD := hid hrd; have HF4 := hid hf; clear hrd hf hR
          try clear a'
          have HR3 := hid (RA.swp Hza Hzp HRD.out)
          have HF3 := hid (HF.out.trans HF4.out)
          clear HRD HF4 HR HF
          have HR := HR3
          have HF := HF3
          clear HR3 HF3
          go_wp2_with fail
          refine (siftV_any g n cap 0 k a (swp d a p) HR.out (Nat.zero_le _) hkn2 hbig).mono ?_
          rintro e w1 ⟨⟨u, rfl⟩, hr, hf⟩
          have HR2 := hid hr
          have HF2 := hid (HF.out.trans hf)
          clear hr hf HR HF
          go_wp2
          go_roundw
          case rel => exact ⟨k, _, by omega, by first | rfl | go_num, HR2, HO3, HF2⟩
          case measure => simp [intOf] <;> omega
    · obtain ⟨k, rfl⟩ : ∃ i, k = i + 1 := ⟨k - 1, by omega⟩
      have ek : ((k + 1 : Nat) : Int) - 1 = (k : Int) := by omega
      rw [ek]
      have hwk : IntKind.i64.wrap ((k : Int) - 1) = (k : Int) - 1 := IntWalk.i64_in _ (by omega)
      have HO3 : Hid (heapPop ltU a hh (heapBuild ltU hh a k (siftDown ltU hh a k d)) = D) := HO
      clear ek
      go_wp2_with fail
      refine (siftV_any g n cap k hh a d HR.out (by omega) hahn hbig).mono ?_
      rintro e w1 ⟨⟨u, rfl⟩, hr, hf⟩
      have HR2 := hid hr
      have HF2 := hid (HF.out.trans hf)
      clear hr hf HR HF
      go_wp2
      go_roundw
      case rel => exact ⟨k, _, by omega, by first | rfl | go_num, HR2, HO3, HF2⟩
      case measure => simp [intOf] <;> omega
end Go.Proofs.YtpbmbjdiilnaeaaDoor
