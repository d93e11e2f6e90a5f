/- reverseRange of a row of numbers. -/
import Derived.Test.YtpbmbjdiilnaeaaDoorSrtV
import Derived.Sort.LotB
set_option linter.unusedSimpArgs false
set_option linter.unusedVariables false
namespace Go.Proofs.YtpbmbjdiilnaeaaDoor
open Go Go.RowKit Go.Tum Go.ChangeMaps Go.Sort
open Go.ParB (upd Lof)
open Go.ParE (putS slotsR slots Closed)

set_option maxRecDepth 100000 in
set_option maxHeartbeats 2000000 in
theorem revV_any {B : Nat} {w : World} (g n cap a b : Nat) (d : Array UInt64) (h : RA w B g n cap d) (hab : a < b) (hbn : b ≤ n) (hbig : n ≤ 4611686018427387903) :
    Calls Tryd.prog 44 #[.slice (some ⟨g, 0, none⟩) n cap, .int .i64 (a : Int), .int .i64 (b : Int)] w fun e w' =>
      (∃ u, e = .returned u) ∧ RA w' B g n cap (reverseRange d a b) ∧ Fr [g] w w' := by
  obtain ⟨D, hD⟩ : ∃ D, reverseRange d a b = D := ⟨_, rfl⟩
  have HD : Hid (reverseLoop a (b - 1) d = D) := hid hD
  rw [hD]
  have H0 := hid h
  obtain ⟨hcap1, hcap2⟩ := h.bound
  clear h hD
  obtain ⟨b1, hb1⟩ : ∃ b1, b1 + 1 = b := ⟨b - 1, by omega⟩
  have hwb : IntKind.i64.wrap ((b : Int) - 1) = (b1 : Int) := i64v _ (by omega) (by omega)
  have HB := hid hb1
  have HD2 : Hid (reverseLoop a b1 d = D) := hid (by have := HD.out; rw [show b - 1 = b1 by omega] at this; exact this)
  clear hb1
  go_enter Tryd.func44, Tryd.ntmps44
  go_wp2
  go_loopw [6, 7] (fun iv jv wr => ∃ (i j : Nat) (e : Array UInt64), i ≤ n ∧ j < n ∧ iv = .int .i64 (i : Int) ∧ jv = .int .i64 (j : Int) ∧ Hid (RA wr B g n cap e) ∧ Hid (reverseLoop i j e = D) ∧ Hid (Fr [g] w wr)) (fun iv _ _ => n + 1 - (intOf iv).toNat)
  case atStart => exact ⟨a, b1, d, by omega, by have := HB.out; omega, by first | rfl | go_num, by first | rfl | go_num, H0, HD2, hid (Fr.refl _ _)⟩
  case round =>
    clear H0 HD HD2
    obtain ⟨i, j, d, hin, hjn, rfl, rfl, HR, HO, HF⟩ := hrel
    rcases Nat.lt_or_ge i j with hij | hij
    · have hwi : IntKind.i64.wrap ((i : Int) + 1) = ((i + 1 : Nat) : Int) := i64v _ (by omega) (by omega)
      have hwj : IntKind.i64.wrap ((j : Int) - 1) = ((j - 1 : Nat) : Int) := i64v _ (by omega) (by omega)
      have hin1 : i < n := by omega
      have hin2 : (i : Int) < n := by omega
      have hjn2 : (j : Int) < n := by omega
      obtain ⟨zi, Hzi, HCzi⟩ := cellV (B := B) (g := g) (n := n) (cap := cap) d i (by omega)
      obtain ⟨zj, Hzj, HCzj⟩ := cellV (B := B) (g := g) (n := n) (cap := cap) d j (by omega)
      have HO3 : Hid (reverseLoop (i + 1) (j - 1) (swp d i j) = D) := hid (by have := HO.out; rw [reverseLoop, if_pos hij] at this; exact this)
      go_wp2_with fail
      refine ParE.wp_region_e (l := [_, _, _, _, _, _, _, _, _, _, _, _, _, _, _, _]) rfl (Rg.Ch [13, 15] [] (SwV _ B g n cap i j zi zj d)) (ParC.VC [ParC.EQ (Value.slice (some ⟨g, 0, none⟩) n cap), ParC.EQ (Value.int IntKind.i64 (i : Int)), ParC.EQ (Value.slice (some ⟨g, 0, none⟩) n cap), ParC.EQ (Value.int IntKind.i64 (j : Int)), ParC.EQ (Value.slice (some ⟨g, 0, none⟩) n cap), ParC.EQ (Value.int IntKind.i64 (j : Int)), ParC.EQ (Value.pointer (some ⟨g, j, none⟩)), ParC.EQ (uv zj), ParC.EQ (Value.slice (some ⟨g, 0, none⟩) n cap), ParC.EQ (Value.int IntKind.i64 (i : Int)), ParC.EQ (Value.pointer (some ⟨g, i, none⟩)), ParC.EQ (uv zi), ParC.EQ (Value.pointer (some ⟨g, i, none⟩)), fun _ => True, ParC.EQ (Value.pointer (some ⟨g, j, none⟩)), fun _ => True]) (by kernel_rfl) (by kernel_rfl) (Rg.Ch.start ⟨fun _ => Ext.draw _, trivial⟩) ?_ ?_
      · refine ⟨fun L ρ w' hR hC hL hd hk => ?_, ?_⟩
        · exact Par.val_of_run rfl ⟨hR.other (by decide), hk.1⟩
        refine ⟨fun L ρ w' hR hC hL hd hk => ?_, ?_⟩
        · exact Par.val_of_run rfl ⟨hR.other (by decide), hk.1⟩
        refine ⟨fun L ρ w' hR hC hL hd hk => ?_, ?_⟩
        · exact Par.val_of_run rfl ⟨hR.other (by decide), hk.1⟩
        refine ⟨fun L ρ w' hR hC hL hd hk => ?_, ?_⟩
        · exact Par.val_of_run rfl ⟨hR.other (by decide), hk.1⟩
        refine ⟨fun L ρ w' hR hC hL hd hk => ?_, ?_⟩
        · exact Par.val_of_run rfl ⟨hR.other (by decide), hk.1⟩
        refine ⟨fun L ρ w' hR hC hL hd hk => ?_, ?_⟩
        · exact Par.val_of_run rfl ⟨hR.other (by decide), hk.1⟩
        refine ⟨fun L ρ w' hR hC hL hd hk => ?_, ?_⟩
        · obtain ⟨k0, k1, -⟩ := hk
          have e0 : ρ (.tmp 18) = Value.slice (some ⟨g, 0, none⟩) n cap := k0
          have e1 : ρ (.tmp 19) = Value.int IntKind.i64 (j : Int) := k1
          clear k0 k1
          refine Par.val_k fun K hK => ?_
          unfold Par.val
          (go_simp; exact hK _ _ ⟨hR.other (by decide), rfl⟩)
        refine ⟨fun L ρ w' hR hC hL hd hk => ?_, ?_⟩
        · obtain ⟨k0, -⟩ := hk
          have e0 : ρ (.tmp 20) = Value.pointer (some ⟨g, j, none⟩) := k0
          clear k0
          refine Par.val_k fun K hK => ?_
          unfold Par.val
          (obtain ⟨ii, hii, hq⟩ := hR.some 0 rfl (hC.notyet 13 7 hL (by kernel_rfl)); have cc := HCzj.out _ (RA.ext (hq.1 (by omega)) HR.out); go_simp; exact hK _ _ ⟨hR.other (by decide), rfl⟩)
        refine ⟨fun L ρ w' hR hC hL hd hk => ?_, ?_⟩
        · exact Par.val_of_run rfl ⟨hR.other (by decide), hk.1⟩
        refine ⟨fun L ρ w' hR hC hL hd hk => ?_, ?_⟩
        · exact Par.val_of_run rfl ⟨hR.other (by decide), hk.1⟩
        refine ⟨fun L ρ w' hR hC hL hd hk => ?_, ?_⟩
        · obtain ⟨k0, k1, -⟩ := hk
          have e0 : ρ (.tmp 22) = Value.slice (some ⟨g, 0, none⟩) n cap := k0
          have e1 : ρ (.tmp 23) = Value.int IntKind.i64 (i : Int) := k1
          clear k0 k1
          refine Par.val_k fun K hK => ?_
          unfold Par.val
          (go_simp; exact hK _ _ ⟨hR.other (by decide), rfl⟩)
        refine ⟨fun L ρ w' hR hC hL hd hk => ?_, ?_⟩
        · obtain ⟨k0, -⟩ := hk
          have e0 : ρ (.tmp 24) = Value.pointer (some ⟨g, i, none⟩) := k0
          clear k0
          refine Par.val_k fun K hK => ?_
          unfold Par.val
          (obtain ⟨ii, hii, hq⟩ := hR.some 0 rfl (hC.notyet 13 11 hL (by kernel_rfl)); have cc := HCzi.out _ (RA.ext (hq.1 (by omega)) HR.out); go_simp; exact hK _ _ ⟨hR.other (by decide), rfl⟩)
        refine ⟨fun L ρ w' hR hC hL hd hk => ?_, ?_⟩
        · obtain ⟨k0, k1, -⟩ := hk
          have e0 : ρ (.tmp 14) = Value.slice (some ⟨g, 0, none⟩) n cap := k0
          have e1 : ρ (.tmp 15) = Value.int IntKind.i64 (i : Int) := k1
          clear k0 k1
          refine Par.val_k fun K hK => ?_
          unfold Par.val
          (go_simp; exact hK _ _ ⟨hR.other (by decide), rfl⟩)
        refine ⟨fun L ρ w' hR hC hL hd hk => ?_, ?_⟩
        · obtain ⟨k0, k1, -⟩ := hk
          have e0 : ρ (.tmp 26) = Value.pointer (some ⟨g, i, none⟩) := k0
          have e1 : ρ (.tmp 21) = uv zj := k1
          clear k0 k1
          refine Par.val_k fun K hK => ?_
          unfold Par.val
          (obtain ⟨hq, hs⟩ := hR.go 0 rfl hL (.inl rfl) (by decide); have hx := hq.1 (by decide); have hrow := RA.ext hx HR.out; obtain ⟨cc, ff⟩ := hrow.at (j := i) (by omega); obtain ⟨hset, hfs⟩ := hrow.set i zj; have HSET := hid hset; have HFS := hid hfs; clear hset hfs hrow; go_simp; exact hK _ _ ⟨hs none _ _ ⟨fun h => absurd h (by decide), HSET.out, (Ext.fr hx).trans HFS.out⟩, trivial⟩)
        refine ⟨fun L ρ w' hR hC hL hd hk => ?_, ?_⟩
        · obtain ⟨k0, k1, -⟩ := hk
          have e0 : ρ (.tmp 16) = Value.slice (some ⟨g, 0, none⟩) n cap := k0
          have e1 : ρ (.tmp 17) = Value.int IntKind.i64 (j : Int) := k1
          clear k0 k1
          refine Par.val_k fun K hK => ?_
          unfold Par.val
          (go_simp; exact hK _ _ ⟨hR.other (by decide), rfl⟩)
        refine ⟨fun L ρ w' hR hC hL hd hk => ?_, ?_⟩
        · obtain ⟨k0, k1, -⟩ := hk
          have e0 : ρ (.tmp 27) = Value.pointer (some ⟨g, j, none⟩) := k0
          have e1 : ρ (.tmp 25) = uv zi := k1
          clear k0 k1
          refine Par.val_k fun K hK => ?_
          unfold Par.val
          (obtain ⟨hq, hs⟩ := hR.go 1 rfl hL (.inr ⟨13, rfl, hC.before 13 (i := 15) rfl hd (by kernel_rfl)⟩) (by decide); obtain ⟨hrow, hfr⟩ := hq.2; obtain ⟨cc, ff⟩ := hrow.at (j := j) (by omega); obtain ⟨hset, hfs⟩ := hrow.set j zi; have HSET := hid hset; have HFS := hid hfs; have HFR := hid hfr; clear hset hfs hrow hfr; go_simp; exact hK _ _ ⟨hs none _ _ ⟨fun h => absurd h (by decide), HSET.out, HFR.out.trans HFS.out⟩, trivial⟩)
        trivial
      intro a' w' inv hR
      have q14 : a'.tmps.getD 14 undef = Value.slice (some ⟨g, 0, none⟩) n cap := inv.done 0 _ 14 rfl rfl rfl
      have q15 : a'.tmps.getD 15 undef = Value.int IntKind.i64 (i : Int) := inv.done 1 _ 15 rfl rfl rfl
      have q16 : a'.tmps.getD 16 undef = Value.slice (some ⟨g, 0, none⟩) n cap := inv.done 2 _ 16 rfl rfl rfl
      have q17 : a'.tmps.getD 17 undef = Value.int IntKind.i64 (j : Int) := inv.done 3 _ 17 rfl rfl rfl
      have q18 : a'.tmps.getD 18 undef = Value.slice (some ⟨g, 0, none⟩) n cap := inv.done 4 _ 18 rfl rfl rfl
      have q19 : a'.tmps.getD 19 undef = Value.int IntKind.i64 (j : Int) := inv.done 5 _ 19 rfl rfl rfl
      have q20 : a'.tmps.getD 20 undef = Value.pointer (some ⟨g, j, none⟩) := inv.done 6 _ 20 rfl rfl rfl
      have q21 : a'.tmps.getD 21 undef = uv zj := inv.done 7 _ 21 rfl rfl rfl
      have q22 : a'.tmps.getD 22 undef = Value.slice (some ⟨g, 0, none⟩) n cap := inv.done 8 _ 22 rfl rfl rfl
      have q23 : a'.tmps.getD 23 undef = Value.int IntKind.i64 (i : Int) := inv.done 9 _ 23 rfl rfl rfl
      have q24 : a'.tmps.getD 24 undef = Value.pointer (some ⟨g, i, none⟩) := inv.done 10 _ 24 rfl rfl rfl
      have q25 : a'.tmps.getD 25 undef = uv zi := inv.done 11 _ 25 rfl rfl rfl
      have q26 : a'.tmps.getD 26 undef = Value.pointer (some ⟨g, i, none⟩) := inv.done 12 _ 26 rfl rfl rfl
      have q27 : a'.tmps.getD 27 undef = Value.pointer (some ⟨g, j, none⟩) := inv.done 14 _ 27 rfl rfl rfl
      clear inv
      simp only [List.filterMap_cons, List.filterMap_nil, Par.putAll, Act.put, List.setIfInBounds_toArray, List.set_cons_succ, List.set_cons_zero, q14, q15, q16, q17, q18, q19, q20, q21, q22, q23, q24, q25, q26, q27]
      clear q14 q15 q16 q17 q18 q19 q20 q21 q22 q23 q24 q25 q26 q27
      obtain ⟨-, hrd, hf⟩ := Rg.Ch.fin hR (by decide) 2 rfl; have HRD := hid hrd; have HF4 := hid hf; clear hrd hf hR
      try clear a'
      have HR3 := hid (RA.swp Hzi Hzj HRD.out)
      have HF3 := hid (HF.out.trans HF4.out)
      clear HRD HF4 HR HF
      have HR := HR3
      have HF := HF3
      clear HR3 HF3
      go_wp2
      go_roundw
      case rel => exact ⟨i + 1, j - 1, swp d i j, by omega, by omega, by first | rfl | go_num, by first | rfl | exact congrArg _ hwj, HR, HO3, HF⟩
      case measure => simp [intOf] <;> omega
    · have hnl : (i < j) = False := by simp; omega
      have HO2 : Hid (d = D) := hid (by have := HO.out; rw [reverseLoop, if_neg (by omega)] at this; exact this)
      go_wp2
      go_returns
      exact ⟨⟨_, rfl⟩, by have := HR.out; rw [HO2.out] at this; exact this, HF.out⟩
end Go.Proofs.YtpbmbjdiilnaeaaDoor
