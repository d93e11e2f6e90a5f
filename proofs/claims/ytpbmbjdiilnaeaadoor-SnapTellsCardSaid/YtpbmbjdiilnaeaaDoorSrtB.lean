/- breakPatterns of a part of a row of numbers. -/
import Derived.Test.YtpbmbjdiilnaeaaDoorSrtX
import Derived.Sort.Lot0
set_option linter.unusedSimpArgs false
set_option linter.unusedVariables false
namespace Go.Proofs.YtpbmbjdiilnaeaaDoor
open Go Go.RowKit Go.Tum Go.ChangeMaps Go.Sort
open Go.ParB (upd Lof)
open Go.ParE (putS slotsR slots Closed)

set_option maxRecDepth 100000 in
set_option maxHeartbeats 4000000 in
theorem brkV_any {B : Nat} {w : World} (g n cap a b : Nat) (d0 : Array UInt64) (h : RA w B g n cap d0) (hab : a + 12 < b) (hbn : b ≤ n) (hbig : n ≤ 4611686018427387903) :
    Calls Tryd.prog 42 #[.slice (some ⟨g, 0, none⟩) n cap, .int .i64 (a : Int), .int .i64 (b : Int)] w fun e w' =>
      (∃ u, e = .returned u) ∧ (∃ d', PermIn a b d0 d' ∧ RA w' B g n cap d') ∧ Fr [g] w w' := by
  have HR := hid h
  have hds := h.size
  obtain ⟨l, hl⟩ : ∃ l, l = b - a := ⟨_, rfl⟩
  obtain ⟨q, hq⟩ : ∃ q, q = l / 4 := ⟨_, rfl⟩
  obtain ⟨q2, hq2⟩ : ∃ q2, q2 = q * 2 := ⟨_, rfl⟩
  obtain ⟨c, hc⟩ : ∃ c, c = a + q2 := ⟨_, rfl⟩
  obtain ⟨c0, hc0⟩ : ∃ c0, c0 + 1 = c := ⟨c - 1, by omega⟩
  obtain ⟨c1, hc1⟩ : ∃ c1, c1 = c + 1 := ⟨_, rfl⟩
  have hwl : IntKind.i64.wrap ((b : Int) - (a : Int)) = (l : Int) := i64v _ (by omega) (by omega)
  have hwlu : IntKind.u64.wrap (l : Int) = (l : Int) := by rw [IntKind.wrap_u64]; omega
  have hwq : IntKind.i64.wrap ((l : Int) / 4) = (q : Int) := i64v _ (by omega) (by omega)
  have hwq2 : IntKind.i64.wrap ((q : Int) * 2) = (q2 : Int) := i64v _ (by omega) (by omega)
  have hwc : IntKind.i64.wrap ((a : Int) + (q2 : Int)) = (c : Int) := i64v _ (by omega) (by omega)
  have hwc0 : IntKind.i64.wrap ((c : Int) - 1) = (c0 : Int) := i64v _ (by omega) (by omega)
  have hwc1 : IntKind.i64.wrap ((c : Int) + 1) = (c1 : Int) := i64v _ (by omega) (by omega)
  have hl8 : 8 ≤ l := by omega
  have HL := hid (show l = b - a ∧ a ≤ c0 ∧ c1 < b ∧ c0 ≤ c1 ∧ l ≤ 4611686018427387903 by omega)
  have hg : g < w.heap.size := h.lt
  have HG := hid hg
  have HE0 : Hid (Ext w (w.alloc (.cells #[.int .u64 (l : Int)] 118))) := hid (Ext.alloc _ _)
  clear h hl hq hq2 hc hc0 hc1 hg
  go_enter Tryd.func42, Tryd.ntmps42
  have HX0 : Hid (XS (w.alloc (.cells #[.int .u64 (l : Int)] 118)) w.heap.size l) := hid (heap_alloc_new _ _)
  have hd8 : decide ((8 : Int) ≤ (l : Int)) = true := by simp; omega
  go_wp2_with fail
  refine (npowV_any l (by omega) HL.out.2.2.2.2 _).mono ?_
  rintro e w1 ⟨⟨m, rfl, hm0, hm2⟩, rfl⟩
  obtain ⟨p, hp⟩ : ∃ p, p = w.heap.size := ⟨_, rfl⟩
  have HP := hid hp
  have HPG : Hid (p ≠ g) := hid (by have := HG.out; omega)
  obtain ⟨m1, hm1⟩ : ∃ m1, m1 + 1 = m := ⟨m - 1, by omega⟩
  have hwm : IntKind.u64.wrap ((m : Int) - 1) = (m1 : Int) := by rw [IntKind.wrap_u64]; have := HL.out.2.2.2.2; omega
  have HM := hid (show m1 < 2 * l ∧ m1 < 18446744073709551616 by have := HL.out.2.2.2.2; omega)
  have HR0 : Hid (RA (w.alloc (.cells #[.int .u64 (l : Int)] 118)) B g n cap d0) := hid (RA.ext HE0.out HR.out)
  have HX1 : Hid (XS (w.alloc (.cells #[.int .u64 (l : Int)] 118)) p l) := hid (by rw [hp]; exact HX0.out)
  rw [← hp]
  clear hp hm1 hm0 hm2 HR
  generalize w.alloc (.cells #[.int .u64 (l : Int)] 118) = w0 at *
  have HD0 := hid hds
  clear hds
  go_wp2_with fail
  go_loopw [9] (fun iv wr => ∃ (i : Nat) (d : Array UInt64), c0 ≤ i ∧ i ≤ c1 + 1 ∧ iv = .int .i64 (i : Int) ∧ Hid (RA wr B g n cap d) ∧ Hid (PermIn a b d0 d) ∧ Hid (∃ y, XS wr p y ∧ y < 18446744073709551616) ∧ Hid (Fr [g, p] w0 wr)) (fun iv _ => c1 + 1 - (intOf iv).toNat)
  case atStart => exact ⟨c0, d0, Nat.le_refl _, by have := HL.out; omega, by first | rfl | go_num, HR0, hid (permIn_refl _ _ _), hid ⟨l, HX1.out, by have := HL.out; omega⟩, hid (Fr.refl _ _)⟩
  case round =>
    clear HR0 HX0 HX1
    obtain ⟨i, d, hi0, hi1, rfl, HR, HPM, HX, HFo⟩ := hrel
    have HDS : Hid (d.size = n) := hid HR.out.size
    rcases Nat.lt_or_ge c1 i with hci | hci
    · have hcm : (i ≤ c1) = False := by simp; omega
      go_wp2
      go_returns
      exact ⟨⟨_, rfl⟩, ⟨d, HPM.out, HR.out⟩, ((Ext.fr HE0.out).trans HFo.out).wider (by intro x hx; simp at hx; rcases hx with h | h; (left; simp [h]); (right; rw [h, HP.out]; exact Nat.le_refl _))⟩
    · have hwi : IntKind.i64.wrap ((i : Int) + 1) = ((i + 1 : Nat) : Int) := i64v _ (by have := HL.out; omega) (by have := HL.out; omega)
      have hin : i < n := by have := HL.out; omega
      have hin2 : (i : Int) < n := by omega
      obtain ⟨y, hy⟩ := HX.out
      have HY := hid hy
      clear hy
      go_wp2_with fail
      refine (xorV_any p y HY.out.1 HY.out.2).mono ?_
      rintro e w1 ⟨⟨y2, rfl, hy2, hxs⟩, hf⟩
      have HX2 := hid (And.intro hxs hy2)
      have HR2 : Hid (RA w1 B g n cap d) := hid (RA.fr hf HPG.out HR.out)
      have HFo2 := hid (HFo.out.trans (hf.mono (T := [g, p]) (by simp)))
      clear hxs hy2 hf HR HFo HX HY
      have HR := HR2
      have HF : Hid (Fr [g] w1 w1) := hid (Fr.refl _ _)
      clear HR2
      obtain ⟨o, ho⟩ : ∃ o, o = y2 &&& m1 := ⟨_, rfl⟩
      have hom : o ≤ m1 := by rw [ho]; exact Nat.and_le_right
      have hand : bits .and .u64 (y2 : Int) (m1 : Int) = (o : Int) := by rw [bits_and_u64_nat _ _ HX2.out.2 HM.out.2, ho]
      have hwo : IntKind.i64.wrap (o : Int) = (o : Int) := i64v _ rfl (by have := HM.out; have := HL.out; omega)
      have HOM := hid hom
      clear ho hom
      rcases Nat.lt_or_ge o l with hol | hol
      · have hcm : (l ≤ o) = False := by simp; omega
        have hdl : decide ((l : Int) ≤ (o : Int)) = false := by simp; omega
        obtain ⟨r, hr⟩ : ∃ r, r = a + o := ⟨_, rfl⟩
        have hwr : IntKind.i64.wrap ((a : Int) + (o : Int)) = (r : Int) := i64v _ (by have := HL.out; omega) (by have := HL.out; omega)
        have hrb : a ≤ r ∧ r < b := by have := HL.out; omega
        have hrn : r < n := by omega
        have hrn2 : (r : Int) < n := by omega
        have HRB := hid hrb
        clear hr hrb
        obtain ⟨zi, Hzi, HCzi⟩ := cellV (B := B) (g := g) (n := n) (cap := cap) d i (by omega)
        obtain ⟨zr, Hzr, HCzr⟩ := cellV (B := B) (g := g) (n := n) (cap := cap) d r (by omega)
        go_wp2_with fail
        refine ParE.wp_region_e (l := [_, _, _, _, _, _, _, _, _, _, _, _, _, _, _, _, _, _, _, _]) rfl (Rg.Ch [17, 19] [] (SwV _ B g n cap i r zi zr d)) (ParC.VC [ParC.EQ (Value.slice (some ⟨g, 0, none⟩) n cap), ParC.EQ (Value.int IntKind.i64 (i : Int)), ParC.EQ (Value.slice (some ⟨g, 0, none⟩) n cap), ParC.EQ (Value.int IntKind.i64 (a : Int)), ParC.EQ (Value.int IntKind.i64 (o : Int)), ParC.EQ (Value.int IntKind.i64 (r : Int)), ParC.EQ (Value.slice (some ⟨g, 0, none⟩) n cap), ParC.EQ (Value.int IntKind.i64 (a : Int)), ParC.EQ (Value.int IntKind.i64 (o : Int)), ParC.EQ (Value.int IntKind.i64 (r : Int)), ParC.EQ (Value.pointer (some ⟨g, r, none⟩)), ParC.EQ (uv zr), ParC.EQ (Value.slice (some ⟨g, 0, none⟩) n cap), ParC.EQ (Value.int IntKind.i64 (i : Int)), ParC.EQ (Value.pointer (some ⟨g, i, none⟩)), ParC.EQ (uv zi), ParC.EQ (Value.pointer (some ⟨g, i, none⟩)), fun _ => True, ParC.EQ (Value.pointer (some ⟨g, r, none⟩)), fun _ => True]) (by kernel_rfl) (by kernel_rfl) (Rg.Ch.start ⟨fun _ => Ext.draw _, trivial⟩) ?_ ?_
        · refine ⟨fun L ρ w' hR hC hL hd hk => ?_, ?_⟩
          · exact Par.val_of_run rfl ⟨hR.other (by decide), hk.1⟩
          refine ⟨fun L ρ w' hR hC hL hd hk => ?_, ?_⟩
          · exact Par.val_of_run rfl ⟨hR.other (by decide), hk.1⟩
          refine ⟨fun L ρ w' hR hC hL hd hk => ?_, ?_⟩
          · exact Par.val_of_run rfl ⟨hR.other (by decide), hk.1⟩
          refine ⟨fun L ρ w' hR hC hL hd hk => ?_, ?_⟩
          · exact Par.val_of_run rfl ⟨hR.other (by decide), hk.1⟩
          refine ⟨fun L ρ w' hR hC hL hd hk => ?_, ?_⟩
          · exact Par.val_of_run rfl ⟨hR.other (by decide), hk.1⟩
          refine ⟨fun L ρ w' hR hC hL hd hk => ?_, ?_⟩
          · obtain ⟨k0, k1, -⟩ := hk
            have e0 : ρ (.tmp 50) = Value.int IntKind.i64 (a : Int) := k0
            have e1 : ρ (.tmp 51) = Value.int IntKind.i64 (o : Int) := k1
            clear k0 k1
            refine Par.val_k fun K hK => ?_
            unfold Par.val
            (go_simp; exact hK _ _ ⟨hR.other (by decide), rfl⟩)
          refine ⟨fun L ρ w' hR hC hL hd hk => ?_, ?_⟩
          · exact Par.val_of_run rfl ⟨hR.other (by decide), hk.1⟩
          refine ⟨fun L ρ w' hR hC hL hd hk => ?_, ?_⟩
          · exact Par.val_of_run rfl ⟨hR.other (by decide), hk.1⟩
          refine ⟨fun L ρ w' hR hC hL hd hk => ?_, ?_⟩
          · exact Par.val_of_run rfl ⟨hR.other (by decide), hk.1⟩
          refine ⟨fun L ρ w' hR hC hL hd hk => ?_, ?_⟩
          · obtain ⟨k0, k1, -⟩ := hk
            have e0 : ρ (.tmp 54) = Value.int IntKind.i64 (a : Int) := k0
            have e1 : ρ (.tmp 55) = Value.int IntKind.i64 (o : Int) := k1
            clear k0 k1
            refine Par.val_k fun K hK => ?_
            unfold Par.val
            (go_simp; exact hK _ _ ⟨hR.other (by decide), rfl⟩)
          refine ⟨fun L ρ w' hR hC hL hd hk => ?_, ?_⟩
          · obtain ⟨k0, k1, -⟩ := hk
            have e0 : ρ (.tmp 53) = Value.slice (some ⟨g, 0, none⟩) n cap := k0
            have e1 : ρ (.tmp 56) = Value.int IntKind.i64 (r : Int) := k1
            clear k0 k1
            refine Par.val_k fun K hK => ?_
            unfold Par.val
            (go_simp; exact hK _ _ ⟨hR.other (by decide), rfl⟩)
          refine ⟨fun L ρ w' hR hC hL hd hk => ?_, ?_⟩
          · obtain ⟨k0, -⟩ := hk
            have e0 : ρ (.tmp 57) = Value.pointer (some ⟨g, r, none⟩) := k0
            clear k0
            refine Par.val_k fun K hK => ?_
            unfold Par.val
            (obtain ⟨ii, hii, hq⟩ := hR.some 0 rfl (hC.notyet 17 11 hL (by kernel_rfl)); have cc := HCzr.out _ (RA.ext (hq.1 (by omega)) HR.out); go_simp; exact hK _ _ ⟨hR.other (by decide), rfl⟩)
          refine ⟨fun L ρ w' hR hC hL hd hk => ?_, ?_⟩
          · exact Par.val_of_run rfl ⟨hR.other (by decide), hk.1⟩
          refine ⟨fun L ρ w' hR hC hL hd hk => ?_, ?_⟩
          · exact Par.val_of_run rfl ⟨hR.other (by decide), hk.1⟩
          refine ⟨fun L ρ w' hR hC hL hd hk => ?_, ?_⟩
          · obtain ⟨k0, k1, -⟩ := hk
            have e0 : ρ (.tmp 59) = Value.slice (some ⟨g, 0, none⟩) n cap := k0
            have e1 : ρ (.tmp 60) = Value.int IntKind.i64 (i : Int) := k1
            clear k0 k1
            refine Par.val_k fun K hK => ?_
            unfold Par.val
            (go_simp; exact hK _ _ ⟨hR.other (by decide), rfl⟩)
          refine ⟨fun L ρ w' hR hC hL hd hk => ?_, ?_⟩
          · obtain ⟨k0, -⟩ := hk
            have e0 : ρ (.tmp 61) = Value.pointer (some ⟨g, i, none⟩) := k0
            clear k0
            refine Par.val_k fun K hK => ?_
            unfold Par.val
            (obtain ⟨ii, hii, hq⟩ := hR.some 0 rfl (hC.notyet 17 15 hL (by kernel_rfl)); have cc := HCzi.out _ (RA.ext (hq.1 (by omega)) HR.out); go_simp; exact hK _ _ ⟨hR.other (by decide), rfl⟩)
          refine ⟨fun L ρ w' hR hC hL hd hk => ?_, ?_⟩
          · obtain ⟨k0, k1, -⟩ := hk
            have e0 : ρ (.tmp 47) = Value.slice (some ⟨g, 0, none⟩) n cap := k0
            have e1 : ρ (.tmp 48) = Value.int IntKind.i64 (i : Int) := k1
            clear k0 k1
            refine Par.val_k fun K hK => ?_
            unfold Par.val
            (go_simp; exact hK _ _ ⟨hR.other (by decide), rfl⟩)
          refine ⟨fun L ρ w' hR hC hL hd hk => ?_, ?_⟩
          · obtain ⟨k0, k1, -⟩ := hk
            have e0 : ρ (.tmp 63) = Value.pointer (some ⟨g, i, none⟩) := k0
            have e1 : ρ (.tmp 58) = uv zr := k1
            clear k0 k1
            refine Par.val_k fun K hK => ?_
            unfold Par.val
            (obtain ⟨hq, hs⟩ := hR.go 0 rfl hL (.inl rfl) (by decide); have hx := hq.1 (by decide); have hrow := RA.ext hx HR.out; obtain ⟨cc, ff⟩ := hrow.at (j := i) (by omega); obtain ⟨hset, hfs⟩ := hrow.set i zr; have HSET := hid hset; have HFS := hid hfs; clear hset hfs hrow; go_simp; exact hK _ _ ⟨hs none _ _ ⟨fun h => absurd h (by decide), HSET.out, (Ext.fr hx).trans HFS.out⟩, trivial⟩)
          refine ⟨fun L ρ w' hR hC hL hd hk => ?_, ?_⟩
          · obtain ⟨k0, k1, -⟩ := hk
            have e0 : ρ (.tmp 49) = Value.slice (some ⟨g, 0, none⟩) n cap := k0
            have e1 : ρ (.tmp 52) = Value.int IntKind.i64 (r : Int) := k1
            clear k0 k1
            refine Par.val_k fun K hK => ?_
            unfold Par.val
            (go_simp; exact hK _ _ ⟨hR.other (by decide), rfl⟩)
          refine ⟨fun L ρ w' hR hC hL hd hk => ?_, ?_⟩
          · obtain ⟨k0, k1, -⟩ := hk
            have e0 : ρ (.tmp 64) = Value.pointer (some ⟨g, r, none⟩) := k0
            have e1 : ρ (.tmp 62) = uv zi := k1
            clear k0 k1
            refine Par.val_k fun K hK => ?_
            unfold Par.val
            (obtain ⟨hq, hs⟩ := hR.go 1 rfl hL (.inr ⟨17, rfl, hC.before 17 (i := 19) rfl hd (by kernel_rfl)⟩) (by decide); obtain ⟨hrow, hfr⟩ := hq.2; obtain ⟨cc, ff⟩ := hrow.at (j := r) (by omega); obtain ⟨hset, hfs⟩ := hrow.set r zi; have HSET := hid hset; have HFS := hid hfs; have HFR := hid hfr; clear hset hfs hrow hfr; go_simp; exact hK _ _ ⟨hs none _ _ ⟨fun h => absurd h (by decide), HSET.out, HFR.out.trans HFS.out⟩, trivial⟩)
          trivial
        intro a' w' inv hR
        have q47 : a'.tmps.getD 47 undef = Value.slice (some ⟨g, 0, none⟩) n cap := inv.done 0 _ 47 rfl rfl rfl
        have q48 : a'.tmps.getD 48 undef = Value.int IntKind.i64 (i : Int) := inv.done 1 _ 48 rfl rfl rfl
        have q49 : a'.tmps.getD 49 undef = Value.slice (some ⟨g, 0, none⟩) n cap := inv.done 2 _ 49 rfl rfl rfl
        have q50 : a'.tmps.getD 50 undef = Value.int IntKind.i64 (a : Int) := inv.done 3 _ 50 rfl rfl rfl
        have q51 : a'.tmps.getD 51 undef = Value.int IntKind.i64 (o : Int) := inv.done 4 _ 51 rfl rfl rfl
        have q52 : a'.tmps.getD 52 undef = Value.int IntKind.i64 (r : Int) := inv.done 5 _ 52 rfl rfl rfl
        have q53 : a'.tmps.getD 53 undef = Value.slice (some ⟨g, 0, none⟩) n cap := inv.done 6 _ 53 rfl rfl rfl
        have q54 : a'.tmps.getD 54 undef = Value.int IntKind.i64 (a : Int) := inv.done 7 _ 54 rfl rfl rfl
        have q55 : a'.tmps.getD 55 undef = Value.int IntKind.i64 (o : Int) := inv.done 8 _ 55 rfl rfl rfl
        have q56 : a'.tmps.getD 56 undef = Value.int IntKind.i64 (r : Int) := inv.done 9 _ 56 rfl rfl rfl
        have q57 : a'.tmps.getD 57 undef = Value.pointer (some ⟨g, r, none⟩) := inv.done 10 _ 57 rfl rfl rfl
        have q58 : a'.tmps.getD 58 undef = uv zr := inv.done 11 _ 58 rfl rfl rfl
        have q59 : a'.tmps.getD 59 undef = Value.slice (some ⟨g, 0, none⟩) n cap := inv.done 12 _ 59 rfl rfl rfl
        have q60 : a'.tmps.getD 60 undef = Value.int IntKind.i64 (i : Int) := inv.done 13 _ 60 rfl rfl rfl
        have q61 : a'.tmps.getD 61 undef = Value.pointer (some ⟨g, i, none⟩) := inv.done 14 _ 61 rfl rfl rfl
        have q62 : a'.tmps.getD 62 undef = uv zi := inv.done 15 _ 62 rfl rfl rfl
        have q63 : a'.tmps.getD 63 undef = Value.pointer (some ⟨g, i, none⟩) := inv.done 16 _ 63 rfl rfl rfl
        have q64 : a'.tmps.getD 64 undef = Value.pointer (some ⟨g, r, none⟩) := inv.done 18 _ 64 rfl rfl rfl
        clear inv
        simp only [List.filterMap_cons, List.filterMap_nil, Par.putAll, Act.put, List.setIfInBounds_toArray, List.set_cons_succ, List.set_cons_zero, q47, q48, q49, q50, q51, q52, q53, q54, q55, q56, q57, q58, q59, q60, q61, q62, q63, q64]
        clear q47 q48 q49 q50 q51 q52 q53 q54 q55 q56 q57 q58 q59 q60 q61 q62 q63 q64
        obtain ⟨-, hrd, hf⟩ := Rg.Ch.fin hR (by decide) 2 rfl; have HRD := hid hrd; have HF4 := hid hf; clear hrd hf hR
        try clear a'
        have HR3 := hid (RA.swp Hzi Hzr HRD.out)
        have HF3 := hid (HF.out.trans HF4.out)
        clear HRD HF4 HR HF
        have HR := HR3
        have HF := HF3
        clear HR3 HF3
        have HPM2 : Hid (PermIn a b d0 (swp d i r)) := hid (permIn_trans _ _ _ a b HPM.out (swp_permIn d a b i r (by have := HL.out; omega) (by have := HL.out; omega) HRB.out.1 HRB.out.2 (by rw [HDS.out]; exact hbn)))
        have HX3 : Hid (∃ y, XS _ p y ∧ y < 18446744073709551616) := hid ⟨_, XS.fr HF.out HPG.out HX2.out.1, HX2.out.2⟩
        have HFo3 := hid (HFo2.out.trans (HF.out.mono (T := [g, p]) (by simp)))
        go_wp2
        go_roundw
        case rel => exact ⟨i + 1, swp d i r, by omega, by omega, by first | rfl | go_num, HR, HPM2, HX3, HFo3⟩
        case measure => simp [intOf] <;> omega
      · obtain ⟨o2, ho2⟩ : ∃ o2, o2 = o - l := ⟨_, rfl⟩
        have hdl : decide ((l : Int) ≤ (o : Int)) = true := by simp; omega
        have hwo2 : IntKind.i64.wrap ((o : Int) - (l : Int)) = (o2 : Int) := i64v _ (by omega) (by have := HOM.out; have := HM.out; have := HL.out; omega)
        have hol2 : o2 < l := by have := HOM.out; have := HM.out; omega
        clear ho2
        obtain ⟨r, hr⟩ : ∃ r, r = a + o2 := ⟨_, rfl⟩
        have hwr : IntKind.i64.wrap ((a : Int) + (o2 : Int)) = (r : Int) := i64v _ (by have := HL.out; omega) (by have := HL.out; omega)
        have hrb : a ≤ r ∧ r < b := by have := HL.out; omega
        have hrn : r < n := by omega
        have hrn2 : (r : Int) < n := by omega
        have HRB := hid hrb
        clear hr hrb
        obtain ⟨zi, Hzi, HCzi⟩ := cellV (B := B) (g := g) (n := n) (cap := cap) d i (by omega)
        obtain ⟨zr, Hzr, HCzr⟩ := cellV (B := B) (g := g) (n := n) (cap := cap) d r (by omega)
        go_wp2_with fail
        refine ParE.wp_region_e (l := [_, _, _, _, _, _, _, _, _, _, _, _, _, _, _, _, _, _, _, _]) rfl (Rg.Ch [17, 19] [] (SwV _ B g n cap i r zi zr d)) (ParC.VC [ParC.EQ (Value.slice (some ⟨g, 0, none⟩) n cap), ParC.EQ (Value.int IntKind.i64 (i : Int)), ParC.EQ (Value.slice (some ⟨g, 0, none⟩) n cap), ParC.EQ (Value.int IntKind.i64 (a : Int)), ParC.EQ (Value.int IntKind.i64 (o2 : Int)), ParC.EQ (Value.int IntKind.i64 (r : Int)), ParC.EQ (Value.slice (some ⟨g, 0, none⟩) n cap), ParC.EQ (Value.int IntKind.i64 (a : Int)), ParC.EQ (Value.int IntKind.i64 (o2 : Int)), ParC.EQ (Value.int IntKind.i64 (r : Int)), ParC.EQ (Value.pointer (some ⟨g, r, none⟩)), ParC.EQ (uv zr), ParC.EQ (Value.slice (some ⟨g, 0, none⟩) n cap), ParC.EQ (Value.int IntKind.i64 (i : Int)), ParC.EQ (Value.pointer (some ⟨g, i, none⟩)), ParC.EQ (uv zi), ParC.EQ (Value.pointer (some ⟨g, i, none⟩)), fun _ => True, ParC.EQ (Value.pointer (some ⟨g, r, none⟩)), fun _ => True]) (by kernel_rfl) (by kernel_rfl) (Rg.Ch.start ⟨fun _ => Ext.draw _, trivial⟩) ?_ ?_
        · refine ⟨fun L ρ w' hR hC hL hd hk => ?_, ?_⟩
          · exact Par.val_of_run rfl ⟨hR.other (by decide), hk.1⟩
          refine ⟨fun L ρ w' hR hC hL hd hk => ?_, ?_⟩
          · exact Par.val_of_run rfl ⟨hR.other (by decide), hk.1⟩
          refine ⟨fun L ρ w' hR hC hL hd hk => ?_, ?_⟩
          · exact Par.val_of_run rfl ⟨hR.other (by decide), hk.1⟩
          refine ⟨fun L ρ w' hR hC hL hd hk => ?_, ?_⟩
          · exact Par.val_of_run rfl ⟨hR.other (by decide), hk.1⟩
          refine ⟨fun L ρ w' hR hC hL hd hk => ?_, ?_⟩
          · exact Par.val_of_run rfl ⟨hR.other (by decide), hk.1⟩
          refine ⟨fun L ρ w' hR hC hL hd hk => ?_, ?_⟩
          · obtain ⟨k0, k1, -⟩ := hk
            have e0 : ρ (.tmp 50) = Value.int IntKind.i64 (a : Int) := k0
            have e1 : ρ (.tmp 51) = Value.int IntKind.i64 (o2 : Int) := k1
            clear k0 k1
            refine Par.val_k fun K hK => ?_
            unfold Par.val
            (go_simp; exact hK _ _ ⟨hR.other (by decide), rfl⟩)
          refine ⟨fun L ρ w' hR hC hL hd hk => ?_, ?_⟩
          · exact Par.val_of_run rfl ⟨hR.other (by decide), hk.1⟩
          refine ⟨fun L ρ w' hR hC hL hd hk => ?_, ?_⟩
          · exact Par.val_of_run rfl ⟨hR.other (by decide), hk.1⟩
          refine ⟨fun L ρ w' hR hC hL hd hk => ?_, ?_⟩
          · exact Par.val_of_run rfl ⟨hR.other (by decide), hk.1⟩
          refine ⟨fun L ρ w' hR hC hL hd hk => ?_, ?_⟩
          · obtain ⟨k0, k1, -⟩ := hk
            have e0 : ρ (.tmp 54) = Value.int IntKind.i64 (a : Int) := k0
            have e1 : ρ (.tmp 55) = Value.int IntKind.i64 (o2 : Int) := k1
            clear k0 k1
            refine Par.val_k fun K hK => ?_
            unfold Par.val
            (go_simp; exact hK _ _ ⟨hR.other (by decide), rfl⟩)
          refine ⟨fun L ρ w' hR hC hL hd hk => ?_, ?_⟩
          · obtain ⟨k0, k1, -⟩ := hk
            have e0 : ρ (.tmp 53) = Value.slice (some ⟨g, 0, none⟩) n cap := k0
            have e1 : ρ (.tmp 56) = Value.int IntKind.i64 (r : Int) := k1
            clear k0 k1
            refine Par.val_k fun K hK => ?_
            unfold Par.val
            (go_simp; exact hK _ _ ⟨hR.other (by decide), rfl⟩)
          refine ⟨fun L ρ w' hR hC hL hd hk => ?_, ?_⟩
          · obtain ⟨k0, -⟩ := hk
            have e0 : ρ (.tmp 57) = Value.pointer (some ⟨g, r, none⟩) := k0
            clear k0
            refine Par.val_k fun K hK => ?_
            unfold Par.val
            (obtain ⟨ii, hii, hq⟩ := hR.some 0 rfl (hC.notyet 17 11 hL (by kernel_rfl)); have cc := HCzr.out _ (RA.ext (hq.1 (by omega)) HR.out); go_simp; exact hK _ _ ⟨hR.other (by decide), rfl⟩)
          refine ⟨fun L ρ w' hR hC hL hd hk => ?_, ?_⟩
          · exact Par.val_of_run rfl ⟨hR.other (by decide), hk.1⟩
          refine ⟨fun L ρ w' hR hC hL hd hk => ?_, ?_⟩
          · exact Par.val_of_run rfl ⟨hR.other (by decide), hk.1⟩
          refine ⟨fun L ρ w' hR hC hL hd hk => ?_, ?_⟩
          · obtain ⟨k0, k1, -⟩ := hk
            have e0 : ρ (.tmp 59) = Value.slice (some ⟨g, 0, none⟩) n cap := k0
            have e1 : ρ (.tmp 60) = Value.int IntKind.i64 (i : Int) := k1
            clear k0 k1
            refine Par.val_k fun K hK => ?_
            unfold Par.val
            (go_simp; exact hK _ _ ⟨hR.other (by decide), rfl⟩)
          refine ⟨fun L ρ w' hR hC hL hd hk => ?_, ?_⟩
          · obtain ⟨k0, -⟩ := hk
            have e0 : ρ (.tmp 61) = Value.pointer (some ⟨g, i, none⟩) := k0
            clear k0
            refine Par.val_k fun K hK => ?_
            unfold Par.val
            (obtain ⟨ii, hii, hq⟩ := hR.some 0 rfl (hC.notyet 17 15 hL (by kernel_rfl)); have cc := HCzi.out _ (RA.ext (hq.1 (by omega)) HR.out); go_simp; exact hK _ _ ⟨hR.other (by decide), rfl⟩)
          refine ⟨fun L ρ w' hR hC hL hd hk => ?_, ?_⟩
          · obtain ⟨k0, k1, -⟩ := hk
            have e0 : ρ (.tmp 47) = Value.slice (some ⟨g, 0, none⟩) n cap := k0
            have e1 : ρ (.tmp 48) = Value.int IntKind.i64 (i : Int) := k1
            clear k0 k1
            refine Par.val_k fun K hK => ?_
            unfold Par.val
            (go_simp; exact hK _ _ ⟨hR.other (by decide), rfl⟩)
          refine ⟨fun L ρ w' hR hC hL hd hk => ?_, ?_⟩
          · obtain ⟨k0, k1, -⟩ := hk
            have e0 : ρ (.tmp 63) = Value.pointer (some ⟨g, i, none⟩) := k0
            have e1 : ρ (.tmp 58) = uv zr := k1
            clear k0 k1
            refine Par.val_k fun K hK => ?_
            unfold Par.val
            (obtain ⟨hq, hs⟩ := hR.go 0 rfl hL (.inl rfl) (by decide); have hx := hq.1 (by decide); have hrow := RA.ext hx HR.out; obtain ⟨cc, ff⟩ := hrow.at (j := i) (by omega); obtain ⟨hset, hfs⟩ := hrow.set i zr; have HSET := hid hset; have HFS := hid hfs; clear hset hfs hrow; go_simp; exact hK _ _ ⟨hs none _ _ ⟨fun h => absurd h (by decide), HSET.out, (Ext.fr hx).trans HFS.out⟩, trivial⟩)
          refine ⟨fun L ρ w' hR hC hL hd hk => ?_, ?_⟩
          · obtain ⟨k0, k1, -⟩ := hk
            have e0 : ρ (.tmp 49) = Value.slice (some ⟨g, 0, none⟩) n cap := k0
            have e1 : ρ (.tmp 52) = Value.int IntKind.i64 (r : Int) := k1
            clear k0 k1
            refine Par.val_k fun K hK => ?_
            unfold Par.val
            (go_simp; exact hK _ _ ⟨hR.other (by decide), rfl⟩)
          refine ⟨fun L ρ w' hR hC hL hd hk => ?_, ?_⟩
          · obtain ⟨k0, k1, -⟩ := hk
            have e0 : ρ (.tmp 64) = Value.pointer (some ⟨g, r, none⟩) := k0
            have e1 : ρ (.tmp 62) = uv zi := k1
            clear k0 k1
            refine Par.val_k fun K hK => ?_
            unfold Par.val
            (obtain ⟨hq, hs⟩ := hR.go 1 rfl hL (.inr ⟨17, rfl, hC.before 17 (i := 19) rfl hd (by kernel_rfl)⟩) (by decide); obtain ⟨hrow, hfr⟩ := hq.2; obtain ⟨cc, ff⟩ := hrow.at (j := r) (by omega); obtain ⟨hset, hfs⟩ := hrow.set r zi; have HSET := hid hset; have HFS := hid hfs; have HFR := hid hfr; clear hset hfs hrow hfr; go_simp; exact hK _ _ ⟨hs none _ _ ⟨fun h => absurd h (by decide), HSET.out, HFR.out.trans HFS.out⟩, trivial⟩)
          trivial
        intro a' w' inv hR
        have q47 : a'.tmps.getD 47 undef = Value.slice (some ⟨g, 0, none⟩) n cap := inv.done 0 _ 47 rfl rfl rfl
        have q48 : a'.tmps.getD 48 undef = Value.int IntKind.i64 (i : Int) := inv.done 1 _ 48 rfl rfl rfl
        have q49 : a'.tmps.getD 49 undef = Value.slice (some ⟨g, 0, none⟩) n cap := inv.done 2 _ 49 rfl rfl rfl
        have q50 : a'.tmps.getD 50 undef = Value.int IntKind.i64 (a : Int) := inv.done 3 _ 50 rfl rfl rfl
        have q51 : a'.tmps.getD 51 undef = Value.int IntKind.i64 (o2 : Int) := inv.done 4 _ 51 rfl rfl rfl
        have q52 : a'.tmps.getD 52 undef = Value.int IntKind.i64 (r : Int) := inv.done 5 _ 52 rfl rfl rfl
        have q53 : a'.tmps.getD 53 undef = Value.slice (some ⟨g, 0, none⟩) n cap := inv.done 6 _ 53 rfl rfl rfl
        have q54 : a'.tmps.getD 54 undef = Value.int IntKind.i64 (a : Int) := inv.done 7 _ 54 rfl rfl rfl
        have q55 : a'.tmps.getD 55 undef = Value.int IntKind.i64 (o2 : Int) := inv.done 8 _ 55 rfl rfl rfl
        have q56 : a'.tmps.getD 56 undef = Value.int IntKind.i64 (r : Int) := inv.done 9 _ 56 rfl rfl rfl
        have q57 : a'.tmps.getD 57 undef = Value.pointer (some ⟨g, r, none⟩) := inv.done 10 _ 57 rfl rfl rfl
        have q58 : a'.tmps.getD 58 undef = uv zr := inv.done 11 _ 58 rfl rfl rfl
        have q59 : a'.tmps.getD 59 undef = Value.slice (some ⟨g, 0, none⟩) n cap := inv.done 12 _ 59 rfl rfl rfl
        have q60 : a'.tmps.getD 60 undef = Value.int IntKind.i64 (i : Int) := inv.done 13 _ 60 rfl rfl rfl
        have q61 : a'.tmps.getD 61 undef = Value.pointer (some ⟨g, i, none⟩) := inv.done 14 _ 61 rfl rfl rfl
        have q62 : a'.tmps.getD 62 undef = uv zi := inv.done 15 _ 62 rfl rfl rfl
        have q63 : a'.tmps.getD 63 undef = Value.pointer (some ⟨g, i, none⟩) := inv.done 16 _ 63 rfl rfl rfl
        have q64 : a'.tmps.getD 64 undef = Value.pointer (some ⟨g, r, none⟩) := inv.done 18 _ 64 rfl rfl rfl
        clear inv
        simp only [List.filterMap_cons, List.filterMap_nil, Par.putAll, Act.put, List.setIfInBounds_toArray, List.set_cons_succ, List.set_cons_zero, q47, q48, q49, q50, q51, q52, q53, q54, q55, q56, q57, q58, q59, q60, q61, q62, q63, q64]
        clear q47 q48 q49 q50 q51 q52 q53 q54 q55 q56 q57 q58 q59 q60 q61 q62 q63 q64
        obtain ⟨-, hrd, hf⟩ := Rg.Ch.fin hR (by decide) 2 rfl; have HRD := hid hrd; have HF4 := hid hf; clear hrd hf hR
        try clear a'
        have HR3 := hid (RA.swp Hzi Hzr HRD.out)
        have HF3 := hid (HF.out.trans HF4.out)
        clear HRD HF4 HR HF
        have HR := HR3
        have HF := HF3
        clear HR3 HF3
        have HPM2 : Hid (PermIn a b d0 (swp d i r)) := hid (permIn_trans _ _ _ a b HPM.out (swp_permIn d a b i r (by have := HL.out; omega) (by have := HL.out; omega) HRB.out.1 HRB.out.2 (by rw [HDS.out]; exact hbn)))
        have HX3 : Hid (∃ y, XS _ p y ∧ y < 18446744073709551616) := hid ⟨_, XS.fr HF.out HPG.out HX2.out.1, HX2.out.2⟩
        have HFo3 := hid (HFo2.out.trans (HF.out.mono (T := [g, p]) (by simp)))
        go_wp2
        go_roundw
        case rel => exact ⟨i + 1, swp d i r, by omega, by omega, by first | rfl | go_num, HR, HPM2, HX3, HFo3⟩
        case measure => simp [intOf] <;> omega
end Go.Proofs.YtpbmbjdiilnaeaaDoor
