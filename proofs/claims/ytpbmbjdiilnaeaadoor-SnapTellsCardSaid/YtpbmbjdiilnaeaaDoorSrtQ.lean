/- pdqsort of a part of a row of numbers: sorted, a permutation. -/
import Derived.Test.YtpbmbjdiilnaeaaDoorSrtI
import Derived.Test.YtpbmbjdiilnaeaaDoorSrtHp
import Derived.Test.YtpbmbjdiilnaeaaDoorSrtRv
import Derived.Test.YtpbmbjdiilnaeaaDoorSrtE
import Derived.Test.YtpbmbjdiilnaeaaDoorSrtN
import Derived.Test.YtpbmbjdiilnaeaaDoorSrtB
import Derived.Sort.LotD3
set_option linter.unusedSimpArgs false
set_option linter.unusedVariables false
namespace Go.Proofs.YtpbmbjdiilnaeaaDoor
open Go Go.RowKit Go.Tum Go.ChangeMaps Go.Sort
open Go.ParB (upd Lof)
open Go.ParE (putS slotsR slots Closed)

/-- Whoever sorts [a, b) of d has sorted [p, q) of D. -/
def FinV (p q : Nat) (D : Array UInt64) (a b : Nat) (d : Array UInt64) : Prop := ∀ R, PermIn a b d R → SortedIn ltU a b R → PermIn p q D R ∧ SortedIn ltU p q R
theorem FinV.perm {p q a b : Nat} {D d e : Array UInt64} (h : FinV p q D a b d) (hp : PermIn a b d e) : FinV p q D a b e := fun R h1 h2 => h R (permIn_trans _ _ _ a b hp h1) h2
set_option maxRecDepth 100000 in
set_option maxHeartbeats 8000000 in
theorem pdqV_any {B : Nat} (g n cap : Nat) (hbig : n ≤ 4611686018427387903) (k : Nat) : ∀ (p0 q0 : Nat) (lim0 : Int) (D : Array UInt64) (w : World), q0 - p0 = k → p0 ≤ q0 → q0 ≤ n → Below ltU p0 q0 D → RA w B g n cap D →
    Calls Tryd.prog 38 #[.slice (some ⟨g, 0, none⟩) n cap, .int .i64 (p0 : Int), .int .i64 (q0 : Int), .int .i64 lim0] w fun e w' =>
      (∃ u, e = .returned u) ∧ (∃ d', PermIn p0 q0 D d' ∧ SortedIn ltU p0 q0 d' ∧ RA w' B g n cap d') ∧ Fr [g] w w' := by
  induction k using Nat.strongRecOn with
  | _ k ih =>
  intro p0 q0 lim0 D w hk hpq hqn hbel hra
  have IH := hid ih
  have HK := hid hk
  have HB0 := hid hbel
  have HR0 := hid hra
  clear ih hk hbel hra
  go_enter Tryd.func38, Tryd.ntmps38
  go_wp2_with fail
  go_loopw [1, 2, 3, 8, 9] (fun av bv lv wbv wpv wr => ∃ (a b : Nat) (lim : Int) (wb wp : Bool) (e : Array UInt64), p0 ≤ a ∧ b ≤ q0 ∧ a ≤ b ∧ av = .int .i64 (a : Int) ∧ bv = .int .i64 (b : Int) ∧ lv = .int .i64 lim ∧ wbv = .bool wb ∧ wpv = .bool wp ∧ Hid (Below ltU a b e) ∧ Hid (FinV p0 q0 D a b e) ∧ Hid (RA wr B g n cap e) ∧ Hid (Fr [g] w wr)) (fun av bv _ _ _ _ => (intOf bv).toNat - (intOf av).toNat)
  case atStart => exact ⟨p0, q0, lim0, true, true, D, Nat.le_refl _, Nat.le_refl _, hpq, rfl, rfl, rfl, rfl, rfl, HB0, hid (fun R h1 h2 => ⟨h1, h2⟩), HR0, hid (Fr.refl _ _)⟩
  case round =>
    clear HR0 HB0
    obtain ⟨a, b, lim, wb, wp, dA, hpa, hbq, hab, rfl, rfl, rfl, rfl, rfl, HB, HFIN, HR, HF⟩ := hrel
    have hbn : b ≤ n := by omega
    have HDS : Hid (dA.size = n) := hid HR.out.size
    obtain ⟨l, hl⟩ : ∃ l, l = b - a := ⟨_, rfl⟩
    have hwl : IntKind.i64.wrap ((b : Int) - (a : Int)) = (l : Int) := i64v _ (by omega) (by omega)
    have HL := hid hl
    rcases Nat.lt_or_ge 12 l with h12 | h12
    case inr =>
      have hd12 : decide ((l : Int) ≤ 12) = true := by simp; omega
      clear hl
      go_wp2_with fail
      refine (insV_any g n cap a b dA HR.out hab hbn (by omega)).mono ?_
      rintro e w1 ⟨⟨u, rfl⟩, hr, hf⟩
      have HR1 := hid hr
      have HF1 := hid (HF.out.trans hf)
      clear hr hf
      have hs := insertionSort_holds (lt := ltU) swoU dA a b hab (by rw [HDS.out]; exact hbn)
      have HS := hid (HFIN.out _ hs.1 hs.2)
      clear hs
      go_wp2
      go_returns
      exact ⟨⟨_, rfl⟩, ⟨_, HS.out.1, HS.out.2, HR1.out⟩, HF1.out⟩
    case inl =>
    have hd12 : decide ((l : Int) ≤ 12) = false := by simp; omega
    have hab12 : a + 12 < b := by omega
    clear hl
    by_cases h0 : lim = 0
    case pos =>
      subst h0
      go_wp2_with fail
      refine (heapV_any g n cap a b dA HR.out (by omega) hbn hbig).mono ?_
      rintro e w1 ⟨⟨u, rfl⟩, hr, hf⟩
      have HR1 := hid hr
      have HF1 := hid (HF.out.trans hf)
      clear hr hf
      have hs := heapSort_holds (lt := ltU) swoU dA a b hab (by rw [HDS.out]; exact hbn)
      have HS := hid (HFIN.out _ hs.1 hs.2)
      clear hs
      go_wp2
      go_returns
      exact ⟨⟨_, rfl⟩, ⟨_, HS.out.1, HS.out.2, HR1.out⟩, HF1.out⟩
    case neg =>
    have h0b : (lim == 0) = false := by simpa using h0
    go_upto_if 35 with fail
    go_cut [3] from 19 to 133 (fun lv wx => ∃ (lim2 : Int) (e : Array UInt64), lv = .int .i64 lim2 ∧ Hid (PermIn a b dA e) ∧ Hid (RA wx B g n cap e) ∧ Hid (Fr [g] w wx))
    case first =>
      cases wb
      case true =>
        go_wp2
        go_meet
        case rel => exact ⟨lim, dA, rfl, hid (permIn_refl _ _ _), HR, HF⟩
      case false =>
        go_wp2_with fail
        refine (brkV_any g n cap a b dA HR.out hab12 hbn hbig).mono ?_
        rintro e w1 ⟨⟨u, rfl⟩, ⟨d1, hp1, hr⟩, hf⟩
        have HR1 := hid hr
        have HP1 := hid hp1
        have HF1 := hid (HF.out.trans hf)
        clear hr hf hp1
        go_wp2
        go_meet
        case rel => exact ⟨_, d1, rfl, HP1, HR1, HF1⟩
    case rest =>
      clear HR HF h0 h0b
      obtain ⟨lim2, d, rfl, HPM, HR, HF⟩ := hcut
      go_wp2_with fail
      refine (pivV_any g n cap a b d HR.out hab12 hbn hbig).mono ?_
      rintro e w1 ⟨⟨x, y, rfl, hx1, hx2, hy⟩, hr, he⟩
      have HR1 := hid hr
      have HF1 : Hid (Fr [g] w w1) := hid (HF.out.trans (Ext.fr he))
      clear hr he HR HF
      have HR := HR1
      have HF := HF1
      clear HR1 HF1 hy
      unfold ph
      go_upto_if 50 with fail
      go_cut [11, 12] from 19 to 133 (fun pv hv wx => ∃ (x : Nat) (y : Int) (e : Array UInt64), pv = .int .i64 (x : Int) ∧ a ≤ x ∧ x < b ∧ hv = .int .i64 y ∧ Hid (PermIn a b dA e) ∧ Hid (RA wx B g n cap e) ∧ Hid (Fr [g] w wx))
      case first =>
        by_cases hy2 : y = 2
        · subst hy2
          obtain ⟨b1, hb1⟩ : ∃ b1, b1 + 1 = b := ⟨b - 1, by omega⟩
          obtain ⟨t, ht⟩ : ∃ t, t = x - a := ⟨_, rfl⟩
          obtain ⟨x2, hx2'⟩ : ∃ x2, x2 = b1 - t := ⟨_, rfl⟩
          have hwb1 : IntKind.i64.wrap ((b : Int) - 1) = (b1 : Int) := i64v _ (by omega) (by omega)
          have hwt : IntKind.i64.wrap ((x : Int) - (a : Int)) = (t : Int) := i64v _ (by omega) (by omega)
          have hwx : IntKind.i64.wrap ((b1 : Int) - (t : Int)) = (x2 : Int) := i64v _ (by omega) (by omega)
          have HX := hid (show a ≤ x2 ∧ x2 < b by omega)
          clear hb1 ht hx2'
          go_wp2_with fail
          refine (revV_any g n cap a b d HR.out (by omega) hbn hbig).mono ?_
          rintro e w1 ⟨⟨u, rfl⟩, hr, hf⟩
          have HR1 := hid hr
          have HF1 := hid (HF.out.trans hf)
          have HP1 : Hid (PermIn a b dA (reverseRange d a b)) := hid (permIn_trans _ _ _ a b HPM.out (reverseRange_holds d a b hab (by rw [HR.out.size]; exact hbn)))
          clear hr hf HR HF
          go_wp2
          go_meet
          case rel => exact ⟨x2, 1, _, rfl, HX.out.1, HX.out.2, rfl, HP1, HR1, HF1⟩
        · have hy2b : (y == 2) = false := by simpa using hy2
          go_wp2
          go_meet
          case rel => exact ⟨x, y, d, rfl, hx1, hx2, rfl, HPM, HR, HF⟩
      case rest =>
        clear HR HF HPM hx1 hx2
        obtain ⟨x, y, d, rfl, hx1, hx2, rfl, HPM, HR, HF⟩ := hcut
        go_upto_region 15 with fail
        go_cut [68] from 19 to 133 (fun v wx => ∃ c : Bool, v = .bool c ∧ Hid (RA wx B g n cap d) ∧ Hid (Fr [g] w wx))
        case first =>
          cases wb
          case false =>
            go_wp2
            go_meet
            case rel => exact ⟨_, rfl, HR, HF⟩
          case true =>
            cases wp
            case false =>
              go_wp2
              go_meet
              case rel => exact ⟨_, rfl, HR, HF⟩
            case true =>
              go_wp2
              go_meet
              case rel => exact ⟨_, rfl, HR, HF⟩
        case rest =>
          clear HR HF
          obtain ⟨c, rfl, HR, HF⟩ := hcut
          have HBd : Hid (Below ltU a b d) := hid (HB.out.perm (by rw [HDS.out]; exact hbn) HPM.out)
          go_upto_if 68 with fail
          go_cut [8] from 19 to 133 (fun v wx => (∃ wb2 : Bool, v = .bool wb2) ∧ ∃ (e : Array UInt64), Hid (PermIn a b dA e) ∧ Hid (RA wx B g n cap e) ∧ Hid (Fr [g] w wx))
          case first =>
            cases c
            case false =>
              go_wp2
              go_meet
              case rel => exact ⟨⟨_, rfl⟩, d, HPM, HR, HF⟩
            case true =>
              have hs := partialInsertionSort_holds (lt := ltU) swoU d a b (by omega) (by rw [HR.out.size]; exact hbn) HBd.out
              have hc := pinsV_any g n cap a b d HR.out (by omega) hbn hbig
              obtain ⟨P, hP⟩ : ∃ P, partialInsertionSort ltU d a b = P := ⟨_, rfl⟩
              rw [hP] at hs hc
              obtain ⟨d3, r⟩ := P
              have HS := hid hs
              have HC := hid hc
              clear hs hc hP
              go_wp2_with fail
              refine HC.out.mono ?_
              rintro e w1 ⟨rfl, hr, hf⟩
              have HR1 := hid hr
              have HF1 := hid (HF.out.trans hf)
              clear hr hf HC
              cases r
              case false =>
                have HP1 : Hid (PermIn a b dA d3) := hid (permIn_trans _ _ _ a b HPM.out HS.out.1)
                go_wp2
                go_meet
                case rel => exact ⟨⟨_, rfl⟩, d3, HP1, HR1, HF1⟩
              case true =>
                have HS2 := hid (HFIN.out _ (permIn_trans _ _ _ a b HPM.out HS.out.1) (HS.out.2 rfl))
                go_wp2
                go_returns
                exact ⟨⟨_, rfl⟩, ⟨_, HS2.out.1, HS2.out.2, HR1.out⟩, HF1.out⟩
          case rest =>
            clear HR HF HPM HBd
            obtain ⟨⟨wb2, rfl⟩, d, HPM, HR, HF⟩ := hcut
            have HBd : Hid (Below ltU a b d) := hid (HB.out.perm (by rw [HDS.out]; exact hbn) HPM.out)
            have HFd : Hid (FinV p0 q0 D a b d) := hid (HFIN.out.perm HPM.out)
            have hxn : x < n := by omega
            have hxn2 : (x : Int) < n := by omega
            go_upto_region 17 with fail
            go_cut [87] from 19 to 133 (fun v wx => ∃ c : Bool, v = .bool c ∧ Hid (c = true → 0 < a ∧ ltU d[a - 1]! d[x]! = false) ∧ Hid (RA wx B g n cap d) ∧ Hid (Fr [g] w wx))
            case first =>
              rcases Nat.eq_zero_or_pos a with ha | ha
              · have hcm : (0 < a) = False := by simp; omega
                have HQ : Hid (false = true → 0 < a ∧ ltU d[a - 1]! d[x]! = false) := hid (by simp)
                go_wp2_with fail
                refine Par.wp_region_par (l := [_, _, _, _, _, _, _, _, _, _, _, _, _, _, _]) rfl Ext (Par.VL [Par.EQ (Value.int IntKind.i64 (a : Int)), Par.EQ (Value.bool false), Par.EQ (Value.bool false), Par.EQ (undef), Par.EQ (undef), Par.EQ (undef), Par.EQ (undef), Par.EQ (undef), Par.EQ (undef), Par.EQ (undef), Par.EQ (undef), Par.EQ (undef), Par.EQ (undef), Par.EQ (undef), Par.EQ (Value.bool false)]) (by kernel_rfl) Ext.refl (fun _ _ _ h1 h2 => Ext.trans h1 h2) (Ext.draw _) (Par.VL_stab ?_) ?_ ?_
                · simp only [List.forall_mem_cons, List.not_mem_nil, false_implies, implies_true, and_true]
                  refine ⟨fun _ _ _ _ h => h, fun _ _ _ _ h => h, fun _ _ _ _ h => h, fun _ _ _ _ h => h, fun _ _ _ _ h => h, fun _ _ _ _ h => h, fun _ _ _ _ h => h, fun _ _ _ _ h => h, fun _ _ _ _ h => h, fun _ _ _ _ h => h, fun _ _ _ _ h => h, fun _ _ _ _ h => h, fun _ _ _ _ h => h, fun _ _ _ _ h => h, fun _ _ _ _ h => h⟩
                · refine ⟨⟨fun _ _ => trivial, fun ρ w' hX hG hk => ?_⟩, ?_⟩
                  · exact Par.val_of_run rfl ⟨Ext.refl _, hk.1⟩
                  refine ⟨⟨fun _ _ => trivial, fun ρ w' hX hG hk => ?_⟩, ?_⟩
                  · obtain ⟨k0, k1, -⟩ := hk
                    have e0 : ρ (.tmp 73) = Value.int IntKind.i64 (a : Int) := k0
                    have e1 : ρ (Operand.const (Value.int IntKind.i64 0)) = (Value.int IntKind.i64 0) := k1
                    clear k0 k1
                    refine Par.val_k fun K hK => ?_
                    unfold Par.val
                    (go_simp; exact hK _ _ ⟨Ext.refl _, rfl⟩)
                  refine ⟨⟨fun _ _ => trivial, fun ρ w' hX hG hk => ?_⟩, ?_⟩
                  · exact Par.val_of_run rfl ⟨Ext.refl _, hk.1⟩
                  refine ⟨⟨fun _ _ u hu => .inr rfl, fun ρ w' hX hG hk => ?_⟩, ?_⟩
                  · cases hG
                  refine ⟨⟨fun _ _ u hu => .inr rfl, fun ρ w' hX hG hk => ?_⟩, ?_⟩
                  · cases hG
                  refine ⟨⟨fun _ _ u hu => .inr rfl, fun ρ w' hX hG hk => ?_⟩, ?_⟩
                  · cases hG
                  refine ⟨⟨fun _ _ u hu => .inr rfl, fun ρ w' hX hG hk => ?_⟩, ?_⟩
                  · cases hG
                  refine ⟨⟨fun _ _ u hu => .inr rfl, fun ρ w' hX hG hk => ?_⟩, ?_⟩
                  · cases hG
                  refine ⟨⟨fun _ _ u hu => .inr rfl, fun ρ w' hX hG hk => ?_⟩, ?_⟩
                  · cases hG
                  refine ⟨⟨fun _ _ u hu => .inr rfl, fun ρ w' hX hG hk => ?_⟩, ?_⟩
                  · cases hG
                  refine ⟨⟨fun _ _ u hu => .inr rfl, fun ρ w' hX hG hk => ?_⟩, ?_⟩
                  · cases hG
                  refine ⟨⟨fun _ _ u hu => .inr rfl, fun ρ w' hX hG hk => ?_⟩, ?_⟩
                  · cases hG
                  refine ⟨⟨fun _ _ u hu => .inr rfl, fun ρ w' hX hG hk => ?_⟩, ?_⟩
                  · cases hG
                  refine ⟨⟨fun _ _ u hu => .inr rfl, fun ρ w' hX hG hk => ?_⟩, ?_⟩
                  · cases hG
                  refine ⟨⟨fun _ _ => trivial, fun ρ w' hX hG hk => ?_⟩, ?_⟩
                  · obtain ⟨k0, k1, k2, -⟩ := hk
                    have e0 : ρ (.tmp 75) = Value.bool false := k0
                    have e1 : ρ (.tmp 86) = undef := k1
                    have e2 : ρ (Operand.const (Value.bool false)) = (Value.bool false) := k2
                    clear k0 k1 k2
                    refine Par.val_k fun K hK => ?_
                    unfold Par.val
                    (go_simp; exact hK _ _ ⟨Ext.refl _, rfl⟩)
                  trivial
                intro a' w' inv
                have hX := inv.ext
                have q73 : a'.tmps.getD 73 undef = Value.int IntKind.i64 (a : Int) := inv.done 0 _ 73 rfl rfl rfl
                have q74 : a'.tmps.getD 74 undef = Value.bool false := inv.done 1 _ 74 rfl rfl rfl
                have q75 : a'.tmps.getD 75 undef = Value.bool false := inv.done 2 _ 75 rfl rfl rfl
                have q76 : a'.tmps.getD 76 undef = undef := inv.done 3 _ 76 rfl rfl rfl
                have q77 : a'.tmps.getD 77 undef = undef := inv.done 4 _ 77 rfl rfl rfl
                have q78 : a'.tmps.getD 78 undef = undef := inv.done 5 _ 78 rfl rfl rfl
                have q79 : a'.tmps.getD 79 undef = undef := inv.done 6 _ 79 rfl rfl rfl
                have q80 : a'.tmps.getD 80 undef = undef := inv.done 7 _ 80 rfl rfl rfl
                have q81 : a'.tmps.getD 81 undef = undef := inv.done 8 _ 81 rfl rfl rfl
                have q82 : a'.tmps.getD 82 undef = undef := inv.done 9 _ 82 rfl rfl rfl
                have q83 : a'.tmps.getD 83 undef = undef := inv.done 10 _ 83 rfl rfl rfl
                have q84 : a'.tmps.getD 84 undef = undef := inv.done 11 _ 84 rfl rfl rfl
                have q85 : a'.tmps.getD 85 undef = undef := inv.done 12 _ 85 rfl rfl rfl
                have q86 : a'.tmps.getD 86 undef = undef := inv.done 13 _ 86 rfl rfl rfl
                have q87 : a'.tmps.getD 87 undef = Value.bool false := inv.done 14 _ 87 rfl rfl rfl
                clear inv
                simp only [List.filterMap_cons, List.filterMap_nil, Par.putAll, Act.put, List.setIfInBounds_toArray, List.set_cons_succ, List.set_cons_zero, q73, q74, q75, q76, q77, q78, q79, q80, q81, q82, q83, q84, q85, q86, q87]
                clear q73 q74 q75 q76 q77 q78 q79 q80 q81 q82 q83 q84 q85 q86 q87
                clear a'
                have HF2 := hid (HF.out.trans (Ext.fr hX))
                have HR2 := hid (RA.ext hX HR.out)
                clear hX HF HR
                have HF := HF2
                have HR := HR2
                clear HF2 HR2
                go_wp2
                go_meet
                case rel => exact ⟨false, rfl, HQ, HR, HF⟩
              · obtain ⟨q, hq⟩ : ∃ q, q + 1 = a := ⟨a - 1, by omega⟩
                have hwq : IntKind.i64.wrap ((a : Int) - 1) = (q : Int) := i64v _ (by omega) (by omega)
                have hqn : q < n := by omega
                have hqn2 : (q : Int) < n := by omega
                have ha2 : (0 : Int) < (a : Int) := by omega
                obtain ⟨zq, Hzq, HCzq⟩ := cellV (B := B) (g := g) (n := n) (cap := cap) d q (by omega)
                obtain ⟨zx, Hzx, HCzx⟩ := cellV (B := B) (g := g) (n := n) (cap := cap) d x (by omega)
                obtain ⟨b0, Hb0⟩ : ∃ b, Hid (ltU zq zx = b) := ⟨_, hid rfl⟩
                have HQ : Hid ((!b0) = true → 0 < a ∧ ltU d[a - 1]! d[x]! = false) := hid (fun hh => ⟨ha, by rw [show a - 1 = q by omega, Hzq.out, Hzx.out, Hb0.out]; simpa using hh⟩)
                clear hq
                go_wp2_with fail
                refine Par.wp_region_par (l := [_, _, _, _, _, _, _, _, _, _, _, _, _, _, _]) rfl Ext (Par.VL [Par.EQ (Value.int IntKind.i64 (a : Int)), Par.EQ (Value.bool true), Par.EQ (Value.bool true), Par.EQ (Value.slice (some ⟨g, 0, none⟩) n cap), Par.EQ (Value.int IntKind.i64 (a : Int)), Par.EQ (Value.int IntKind.i64 (q : Int)), Par.EQ (Value.pointer (some ⟨g, q, none⟩)), Par.EQ (uv zq), Par.EQ (Value.slice (some ⟨g, 0, none⟩) n cap), Par.EQ (Value.int IntKind.i64 (x : Int)), Par.EQ (Value.pointer (some ⟨g, x, none⟩)), Par.EQ (uv zx), Par.EQ (Value.bool b0), Par.EQ (Value.bool (!b0)), Par.EQ (Value.bool (!b0))]) (by kernel_rfl) Ext.refl (fun _ _ _ h1 h2 => Ext.trans h1 h2) (Ext.draw _) (Par.VL_stab ?_) ?_ ?_
                · simp only [List.forall_mem_cons, List.not_mem_nil, false_implies, implies_true, and_true]
                  refine ⟨fun _ _ _ _ h => h, fun _ _ _ _ h => h, fun _ _ _ _ h => h, fun _ _ _ _ h => h, fun _ _ _ _ h => h, fun _ _ _ _ h => h, fun _ _ _ _ h => h, fun _ _ _ _ h => h, fun _ _ _ _ h => h, fun _ _ _ _ h => h, fun _ _ _ _ h => h, fun _ _ _ _ h => h, fun _ _ _ _ h => h, fun _ _ _ _ h => h, fun _ _ _ _ h => h⟩
                · refine ⟨⟨fun _ _ => trivial, fun ρ w' hX hG hk => ?_⟩, ?_⟩
                  · exact Par.val_of_run rfl ⟨Ext.refl _, hk.1⟩
                  refine ⟨⟨fun _ _ => trivial, fun ρ w' hX hG hk => ?_⟩, ?_⟩
                  · obtain ⟨k0, k1, -⟩ := hk
                    have e0 : ρ (.tmp 73) = Value.int IntKind.i64 (a : Int) := k0
                    have e1 : ρ (Operand.const (Value.int IntKind.i64 0)) = (Value.int IntKind.i64 0) := k1
                    clear k0 k1
                    refine Par.val_k fun K hK => ?_
                    unfold Par.val
                    (go_simp; exact hK _ _ ⟨Ext.refl _, rfl⟩)
                  refine ⟨⟨fun _ _ => trivial, fun ρ w' hX hG hk => ?_⟩, ?_⟩
                  · exact Par.val_of_run rfl ⟨Ext.refl _, hk.1⟩
                  refine ⟨⟨fun _ _ u hu => .inl hu, fun ρ w' hX hG hk => ?_⟩, ?_⟩
                  · exact Par.val_of_run rfl ⟨Ext.refl _, hk.1⟩
                  refine ⟨⟨fun _ _ u hu => .inl hu, fun ρ w' hX hG hk => ?_⟩, ?_⟩
                  · exact Par.val_of_run rfl ⟨Ext.refl _, hk.1⟩
                  refine ⟨⟨fun _ _ u hu => .inl hu, fun ρ w' hX hG hk => ?_⟩, ?_⟩
                  · obtain ⟨k0, k1, -⟩ := hk
                    have e0 : ρ (.tmp 77) = Value.int IntKind.i64 (a : Int) := k0
                    have e1 : ρ (Operand.const (Value.int IntKind.i64 1)) = (Value.int IntKind.i64 1) := k1
                    clear k0 k1
                    refine Par.val_k fun K hK => ?_
                    unfold Par.val
                    (go_simp; exact hK _ _ ⟨Ext.refl _, rfl⟩)
                  refine ⟨⟨fun _ _ u hu => .inl hu, fun ρ w' hX hG hk => ?_⟩, ?_⟩
                  · obtain ⟨k0, k1, -⟩ := hk
                    have e0 : ρ (.tmp 76) = Value.slice (some ⟨g, 0, none⟩) n cap := k0
                    have e1 : ρ (.tmp 78) = Value.int IntKind.i64 (q : Int) := k1
                    clear k0 k1
                    refine Par.val_k fun K hK => ?_
                    unfold Par.val
                    (go_simp; exact hK _ _ ⟨Ext.refl _, rfl⟩)
                  refine ⟨⟨fun _ _ u hu => .inl hu, fun ρ w' hX hG hk => ?_⟩, ?_⟩
                  · obtain ⟨k0, -⟩ := hk
                    have e0 : ρ (.tmp 79) = Value.pointer (some ⟨g, q, none⟩) := k0
                    clear k0
                    refine Par.val_k fun K hK => ?_
                    unfold Par.val
                    (have cc := HCzq.out _ (RA.ext hX HR.out); go_simp; exact hK _ _ ⟨Ext.refl _, rfl⟩)
                  refine ⟨⟨fun _ _ u hu => .inl hu, fun ρ w' hX hG hk => ?_⟩, ?_⟩
                  · exact Par.val_of_run rfl ⟨Ext.refl _, hk.1⟩
                  refine ⟨⟨fun _ _ u hu => .inl hu, fun ρ w' hX hG hk => ?_⟩, ?_⟩
                  · exact Par.val_of_run rfl ⟨Ext.refl _, hk.1⟩
                  refine ⟨⟨fun _ _ u hu => .inl hu, fun ρ w' hX hG hk => ?_⟩, ?_⟩
                  · obtain ⟨k0, k1, -⟩ := hk
                    have e0 : ρ (.tmp 81) = Value.slice (some ⟨g, 0, none⟩) n cap := k0
                    have e1 : ρ (.tmp 82) = Value.int IntKind.i64 (x : Int) := k1
                    clear k0 k1
                    refine Par.val_k fun K hK => ?_
                    unfold Par.val
                    (go_simp; exact hK _ _ ⟨Ext.refl _, rfl⟩)
                  refine ⟨⟨fun _ _ u hu => .inl hu, fun ρ w' hX hG hk => ?_⟩, ?_⟩
                  · obtain ⟨k0, -⟩ := hk
                    have e0 : ρ (.tmp 83) = Value.pointer (some ⟨g, x, none⟩) := k0
                    clear k0
                    refine Par.val_k fun K hK => ?_
                    unfold Par.val
                    (have cc := HCzx.out _ (RA.ext hX HR.out); go_simp; exact hK _ _ ⟨Ext.refl _, rfl⟩)
                  refine ⟨⟨fun _ _ u hu => .inl hu, fun ρ w' hX hG hk => ?_⟩, ?_⟩
                  · obtain ⟨k0, k1, k2, -⟩ := hk
                    have e0 := k0
                    have e1 : ρ (.tmp 80) = uv zq := k1
                    have e2 : ρ (.tmp 84) = uv zx := k2
                    clear k0 k1 k2
                    refine Par.val_k fun K hK => ?_
                    unfold Par.val
                    refine Par.val_call Tryd.func46 (by kernel_rfl) rfl e0 ?_
                    simp only [List.map_toArray, List.map_cons, List.map_nil, e1, e2]
                    refine (lessU_any zq zx _).mono ?_
                    rintro e w2 ⟨rfl, rfl⟩
                    exact ⟨_, rfl, hK _ _ ⟨Ext.refl _, (congrArg Value.bool Hb0.out)⟩⟩
                  refine ⟨⟨fun _ _ u hu => .inl hu, fun ρ w' hX hG hk => ?_⟩, ?_⟩
                  · obtain ⟨k0, -⟩ := hk
                    have e0 : ρ (.tmp 85) = Value.bool b0 := k0
                    clear k0
                    refine Par.val_k fun K hK => ?_
                    unfold Par.val
                    (go_simp; exact hK _ _ ⟨Ext.refl _, rfl⟩)
                  refine ⟨⟨fun _ _ => trivial, fun ρ w' hX hG hk => ?_⟩, ?_⟩
                  · obtain ⟨k0, k1, k2, -⟩ := hk
                    have e0 : ρ (.tmp 75) = Value.bool true := k0
                    have e1 : ρ (.tmp 86) = Value.bool (!b0) := k1
                    have e2 : ρ (Operand.const (Value.bool false)) = (Value.bool false) := k2
                    clear k0 k1 k2
                    refine Par.val_k fun K hK => ?_
                    unfold Par.val
                    (go_simp; exact hK _ _ ⟨Ext.refl _, rfl⟩)
                  trivial
                intro a' w' inv
                have hX := inv.ext
                have q73 : a'.tmps.getD 73 undef = Value.int IntKind.i64 (a : Int) := inv.done 0 _ 73 rfl rfl rfl
                have q74 : a'.tmps.getD 74 undef = Value.bool true := inv.done 1 _ 74 rfl rfl rfl
                have q75 : a'.tmps.getD 75 undef = Value.bool true := inv.done 2 _ 75 rfl rfl rfl
                have q76 : a'.tmps.getD 76 undef = Value.slice (some ⟨g, 0, none⟩) n cap := inv.done 3 _ 76 rfl rfl rfl
                have q77 : a'.tmps.getD 77 undef = Value.int IntKind.i64 (a : Int) := inv.done 4 _ 77 rfl rfl rfl
                have q78 : a'.tmps.getD 78 undef = Value.int IntKind.i64 (q : Int) := inv.done 5 _ 78 rfl rfl rfl
                have q79 : a'.tmps.getD 79 undef = Value.pointer (some ⟨g, q, none⟩) := inv.done 6 _ 79 rfl rfl rfl
                have q80 : a'.tmps.getD 80 undef = uv zq := inv.done 7 _ 80 rfl rfl rfl
                have q81 : a'.tmps.getD 81 undef = Value.slice (some ⟨g, 0, none⟩) n cap := inv.done 8 _ 81 rfl rfl rfl
                have q82 : a'.tmps.getD 82 undef = Value.int IntKind.i64 (x : Int) := inv.done 9 _ 82 rfl rfl rfl
                have q83 : a'.tmps.getD 83 undef = Value.pointer (some ⟨g, x, none⟩) := inv.done 10 _ 83 rfl rfl rfl
                have q84 : a'.tmps.getD 84 undef = uv zx := inv.done 11 _ 84 rfl rfl rfl
                have q85 : a'.tmps.getD 85 undef = Value.bool b0 := inv.done 12 _ 85 rfl rfl rfl
                have q86 : a'.tmps.getD 86 undef = Value.bool (!b0) := inv.done 13 _ 86 rfl rfl rfl
                have q87 : a'.tmps.getD 87 undef = Value.bool (!b0) := inv.done 14 _ 87 rfl rfl rfl
                clear inv
                simp only [List.filterMap_cons, List.filterMap_nil, Par.putAll, Act.put, List.setIfInBounds_toArray, List.set_cons_succ, List.set_cons_zero, q73, q74, q75, q76, q77, q78, q79, q80, q81, q82, q83, q84, q85, q86, q87]
                clear q73 q74 q75 q76 q77 q78 q79 q80 q81 q82 q83 q84 q85 q86 q87
                clear a'
                have HF2 := hid (HF.out.trans (Ext.fr hX))
                have HR2 := hid (RA.ext hX HR.out)
                clear hX HF HR
                have HF := HF2
                have HR := HR2
                clear HF2 HR2
                go_wp2
                go_meet
                case rel => exact ⟨_, rfl, HQ, HR, HF⟩
            case rest =>
              clear HR HF
              obtain ⟨c, rfl, HQ, HR, HF⟩ := hcut
              cases c
              case true =>
                obtain ⟨P, hP⟩ : ∃ P, partitionEqual ltU d a b x = P := ⟨_, rfl⟩
                obtain ⟨mid, d4⟩ := P
                have hc := partEqV_any g n cap a b x d HR.out hx1 hx2 hbn hbig
                rw [hP] at hc
                have hs := round_eq (lt := ltU) swoU (partitionEqual_holds _) (HQ.out rfl).1 hx1 hx2 (by rw [HR.out.size]; exact hbn) HBd.out (HQ.out rfl).2 hP
                have HS := hid hs
                have HC := hid hc
                clear hs hc hP
                have hm := hid (And.intro HS.out.1 HS.out.2.1)
                go_wp2_with fail
                refine HC.out.mono ?_
                rintro e w1 ⟨rfl, hr, hf⟩
                have HR1 := hid hr
                have HF1 := hid (HF.out.trans hf)
                clear hr hf HC HR HF
                have HF2 : Hid (FinV p0 q0 D mid b d4) := hid (fun R h1 h2 => by have := HS.out.2.2.2.2 R h1 h2; exact HFd.out R this.1 this.2)
                have HB2 := hid HS.out.2.2.2.1
                go_wp2
                go_roundw
                case rel => exact ⟨mid, b, lim2, wb2, wp, d4, by have := hm.out; omega, hbq, hm.out.2, rfl, rfl, rfl, rfl, rfl, HB2, HF2, HR1, HF1⟩
                case measure => simp [intOf] <;> (have := hm.out; omega)
              case false =>
                obtain ⟨P, hP⟩ : ∃ P, partition ltU d a b x = P := ⟨_, rfl⟩
                obtain ⟨mid, ap, d4⟩ := P
                have hc := partV_any g n cap a b x d HR.out hx1 hx2 hbn hbig
                rw [hP] at hc
                have hs := round_part (lt := ltU) swoU (partition_holds _) hx1 hx2 (by rw [HR.out.size]; exact hbn) HBd.out hP
                have HS := hid hs
                have HC := hid hc
                clear hs hc hP
                have hm := hid (And.intro HS.out.1 HS.out.2.1)
                obtain ⟨L, hL⟩ : ∃ L, L = mid - a := ⟨_, rfl⟩
                obtain ⟨S, hS⟩ : ∃ S, S = b - mid := ⟨_, rfl⟩
                obtain ⟨T, hT⟩ : ∃ T, T = l / 8 := ⟨_, rfl⟩
                obtain ⟨m1, hm1⟩ : ∃ m1, m1 = mid + 1 := ⟨_, rfl⟩
                have hwL : IntKind.i64.wrap ((mid : Int) - (a : Int)) = (L : Int) := i64v _ (by have := hm.out; omega) (by have := hm.out; omega)
                have hwS : IntKind.i64.wrap ((b : Int) - (mid : Int)) = (S : Int) := i64v _ (by have := hm.out; omega) (by have := hm.out; omega)
                have hwT : IntKind.i64.wrap ((l : Int) / 8) = (T : Int) := i64v _ (by omega) (by have := HL.out; omega)
                have hwm1 : IntKind.i64.wrap ((mid : Int) + 1) = (m1 : Int) := i64v _ (by omega) (by have := hm.out; omega)
                have HM1 := hid hm1
                clear hL hS hT hm1
                go_wp2_with fail
                refine HC.out.mono ?_
                rintro e w1 ⟨rfl, hr, hf⟩
                have HR1 := hid hr
                have HF1 := hid (HF.out.trans hf)
                clear hr hf HC HR HF
                unfold mb
                simp only []
                rcases Nat.lt_or_ge L S with hLS | hLS
                · have hdl : decide ((L : Int) < (S : Int)) = true := by simp; omega
                  go_wp2_with fail
                  refine (IH.out (mid - a) (by have := hm.out; have := HK.out; omega) a mid lim2 d4 w1 rfl hm.out.1 (by have := hm.out; omega) HS.out.2.2.2.1 HR1.out).mono ?_
                  rintro e w2 ⟨⟨u, rfl⟩, ⟨d5, hp5, hs5, hr⟩, hf⟩
                  have HR2 := hid hr
                  have HF2 := hid (HF1.out.trans hf)
                  have HQ5 := hid (HS.out.2.2.2.2.2.1 d5 hp5 hs5)
                  clear hr hf hp5 hs5 HR1 HF1
                  have HFi : Hid (FinV p0 q0 D m1 b d5) := hid (fun R h1 h2 => by rw [HM1.out] at h1 h2; have := HQ5.out.2 R h1 h2; exact HFd.out R this.1 this.2)
                  have HB2 : Hid (Below ltU m1 b d5) := hid (by rw [HM1.out]; exact HQ5.out.1)
                  go_wp2
                  go_roundw
                  case rel => exact ⟨m1, b, lim2, _, ap, d5, by have := hm.out; have := HM1.out; omega, hbq, by have := hm.out; have := HM1.out; omega, rfl, rfl, rfl, rfl, rfl, HB2, HFi, HR2, HF2⟩
                  case measure => simp [intOf] <;> (have := hm.out; have := HM1.out; omega)
                · have hdl : decide ((L : Int) < (S : Int)) = false := by simp; omega
                  have hca := IH.out (b - m1) (by have := hm.out; have := HK.out; have := HM1.out; omega) m1 b lim2 d4 w1 rfl (by have := hm.out; have := HM1.out; omega) hbn (by rw [HM1.out]; exact HS.out.2.2.2.2.1) HR1.out
                  have HCA := hid hca
                  clear hca
                  go_wp2_with fail
                  refine HCA.out.mono ?_
                  rintro e w2 ⟨⟨u, rfl⟩, ⟨d5, hp5, hs5, hr⟩, hf⟩
                  rw [HM1.out] at hp5 hs5
                  have HR2 := hid hr
                  have HF2 := hid (HF1.out.trans hf)
                  have HQ5 := hid (HS.out.2.2.2.2.2.2 d5 hp5 hs5)
                  clear hr hf hp5 hs5 HR1 HF1 HCA
                  have HFi : Hid (FinV p0 q0 D a mid d5) := hid (fun R h1 h2 => by have := HQ5.out.2 R h1 h2; exact HFd.out R this.1 this.2)
                  have HB2 : Hid (Below ltU a mid d5) := hid HQ5.out.1
                  go_wp2
                  go_roundw
                  case rel => exact ⟨a, mid, lim2, _, ap, d5, hpa, by have := hm.out; omega, hm.out.1, rfl, rfl, rfl, rfl, rfl, HB2, HFi, HR2, HF2⟩
                  case measure => simp [intOf] <;> (have := hm.out; omega)
end Go.Proofs.YtpbmbjdiilnaeaaDoor
