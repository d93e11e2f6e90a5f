/- Package vint: All, Split, Size; math/bits.Len64. -/
import Derived.Test.YtbgploeklegfcaaVintA
import Derived.Deep.Cut
namespace Go.Proofs.Ytbgploeklegfcaa
open Go.RowKit Go.Tum Go.Tum.Vint

theorem info64 : (Try.prog.info? 22).map (fun i => (i.zero, i.size, i.bytes)) = some (some (.int .u64 0), 1, 8) := by kernel_rfl

theorem vall_any (v : Value) (l : List UInt64) (w : World) (hb : Vec uv w v l) (hl : l.length ≤ 1048576) :
    Calls Try.prog 17 #[v] w fun e w' => ∃ r, e = .returned r ∧ Own w' w.heap.size 5 r (vall l) ∧ Ext w w' := by
  obtain ⟨ao, cap, rfl, hle, hm, hnn, hcell⟩ := hb.open
  have HC := hid hcell
  clear hb hcell
  go_enter Try.func17, Try.ntmps17
  go_wp2
  go_loopw [3, 8] (fun o i wr => ∃ k : Nat, k ≤ l.length ∧ i = .int .i64 k ∧ (∃ bo cbp, o = .slice bo (vall (l.take k)).length cbp ∧ Hid (Own wr w.heap.size 5 (.slice bo (vall (l.take k)).length cbp) (vall (l.take k)))) ∧ Hid (Ext w wr)) (fun _ i _ => l.length - (intOf i).toNat)
  case atStart => exact ⟨0, by omega, rfl, ⟨_, _, rfl, Own.nil _ _ _⟩, Ext.refl _⟩
  case round =>
    obtain ⟨k, hk, rfl, ⟨bo, cbp, rfl, HO⟩, HE⟩ := hrel
    by_cases hlt : k < l.length
    · obtain ⟨a, rfl⟩ := hnn (by omega)
      have hc := HE.out.cell (HC.out a rfl k hlt)
      have hu := (l[k]).toNat_lt
      have hs := hid (show vall (l.take (k + 1)) = vall (l.take k) ++ vput (l[k].toNat) by rw [List.take_succ_eq_append_getElem hlt, vall_snoc])
      have hL := vall_len (l.take k)
      have hL2 := vputF_len 9 (l[k].toNat)
      rw [List.length_take] at hL
      change 1 ≤ (vput (l[k].toNat)).length ∧ (vput (l[k].toNat)).length ≤ 9 + 1 at hL2
      have HL := hid hL
      have HL2 := hid hL2
      have hsz := HE.out.size
      clear hL hL2
      go_wp2_with (first
        | (go_at_call 13; refine (vput_any _ l[k].toNat rfl (by omega) _).mono ?_; rintro e w1 ⟨r, rfl, hr1, hw1⟩)
        | (at_builtin; refine wpList_append_byt rfl (.tmp 12) (.tmp 14) 23 rfl w.heap.size 5 Try.underlying23 info8 rfl (HO.out.ext hw1) rfl hr1 (vall (l.take (k + 1))).length (by rw [hs.out, List.length_append]) (by rw [hs.out, List.length_append]; have := HL.out; have := HL2.out; omega) (Nat.le_trans hsz hw1.size) ?_; intro ao2 cap2 w2 hown2 hg2 hb2))
      go_roundw
      case rel => exact ⟨k + 1, by omega, by go_num, ⟨_, _, rfl, by rw [← hs.out] at hown2; exact hown2⟩, Below.trans (HE.out.trans hw1) hb2⟩
      case measure => simp [intOf]; omega
    · obtain rfl : k = l.length := by omega
      go_wp2
      go_ret
      refine ⟨_, rfl, ?_, HE.out⟩
      have := HO.out
      rw [List.take_length] at this
      show Own wr w.heap.size 5 (.slice bo (vall (l.take l.length)).length cbp) (vall l)
      rw [List.take_length]
      exact this

theorem vsplit_any (v : Value) (l : List UInt8) (w : World) (hb : Byt w v l) (hl : l.length ≤ 1048576) :
    Calls Try.prog 10 #[v] w fun e w' => ∃ r, e = .returned (.tuple #[r, .int .i64 ((vsplit l).2 : Nat)]) ∧ OwV uv w' w.heap.size 22 r (vsplitR l) ∧ Ext w w' := by
  obtain ⟨ao, cap, rfl, hle, hm, hnn, hcell⟩ := hb.open
  clear hcell hnn
  have HB := hid hb
  clear hb
  have hflen := vsplit_len l.length l (Nat.le_refl _)
  go_enter Try.func10, Try.ntmps10
  go_wp2
  go_loopw [0, 4] (fun b o wr => ∃ (m : List UInt8) (p : List UInt64) (bo : Option Addr) (cbp : Nat), b = .slice bo m.length cbp ∧ m.length ≤ l.length ∧ Hid (Byt w (.slice bo m.length cbp) m) ∧ m.length ≤ cbp ∧ cbp ≤ 9223372036854775807 ∧
      Hid ((vsplit l) = (p ++ (vsplit m).1, (vsplit m).2)) ∧ (∃ co ccp, o = .slice co p.length ccp ∧ Hid (OwV uv wr w.heap.size 22 (.slice co p.length ccp) p)) ∧ Hid (Ext w wr))
    (fun b _ _ => match b with | .slice _ n _ => n | _ => 0)
  case atStart => exact ⟨l, [], ao, cap, rfl, Nat.le_refl _, HB, hle, hm, hid (by simp), ⟨_, _, rfl, OwV.nil _ _ _⟩, Ext.refl _⟩
  case round =>
    obtain ⟨m, p, bo, cbp, rfl, hml, HM, hmc, hcm, HV, ⟨co, ccp, rfl, HO⟩, HE⟩ := hrel
    have hsz := HE.out.size
    have hpl : p.length ≤ l.length := by
      have := HV.out
      rw [this] at hflen
      simp at hflen; omega
    by_cases hm0 : m = []
    · subst hm0
      have hd : decide (0 < (([] : List UInt8).length : Int)) = false := by simp
      have h0 : ¬ (0 < (([] : List UInt8).length : Int)) := by simp
      go_wp2
      go_ret2
      have := HV.out
      rw [vsplit_nil] at this
      refine ⟨_, by rw [this]; rfl, ?_, HE.out⟩
      unfold vsplitR
      rw [this]; simpa using HO.out
    · have hpos : 0 < m.length := List.length_pos_iff.2 hm0
      have hd : decide (0 < (m.length : Int)) = true := by simp; omega
      obtain ⟨n, u, e, hv⟩ : ∃ n u e, vget m = (n, u, e) := ⟨_, _, _, rfl⟩
      by_cases he : e = 0
      · subst he
        have hu := vget_used hv
        have hn := (vget_ok hv).1
        have hstep := HV.out
        rw [vsplit_ok hv] at hstep
        have HS := hid hstep
        have HVM := hid hv
        have hne : (((0 : Nat) : Int) != 0) = false := rfl
        obtain ⟨hu1, hu2⟩ := hu
        have hI1 : (u : Int) ≤ m.length := by omega
        have HDR := hid fun ao' hao => Vec.drop (f := bv) HM.out.vec u hu2 ao' hao (m.length - u) (cbp - u) rfl rfl
        clear hstep hv
        go_wp2_with (first
          | (go_at_call 8; refine (vget_any _ m _ (HM.out.ext HE.out)).mono ?_; rintro e w1 ⟨rfl, rfl⟩; rw [HVM.out])
          | (at_builtin; refine wpList_append_vec uv_one rfl (.tmp 20) (.tmp 22) 24 rfl w.heap.size 22 Try.underlying24 info64 rfl rfl (HO.out.ext (Ext.alloc _ _)) rfl (Vec.one _ _ _ (UInt64.ofNat n) (by simp [uv]; omega)) (p.length + 1) (by simp) (by omega) (by omega) (by simp; omega) ?_; intro ao2 cap2 w2 hown2 hg2 hb2))
        go_roundw
        case rel =>
          refine ⟨m.drop u, p ++ [UInt64.ofNat n], (if cbp = u then bo else Option.map (fun x => x.add u) bo), cbp - u, by rw [List.length_drop], by simp; omega, hid ?_, by simp; omega, by omega, hid (by rw [HS.out]; simp), ⟨ao2, cap2, by rw [List.length_append]; rfl, hid (by rw [List.length_append]; exact hown2)⟩, Below.trans (Below.alloc HE.out hsz _) hb2⟩
          rw [List.length_drop]; exact HDR.out _ rfl
        case measure => simp; omega
      · have hstep := HV.out
        rw [vsplit_no hm0 hv he] at hstep
        have HS := hid hstep
        have HVM := hid hv
        have hne : ((e : Int) != 0) = true := by simp; omega
        clear hstep hv
        go_wp2_with (go_at_call 8; refine (vget_any _ m _ (HM.out.ext HE.out)).mono ?_; rintro e w1 ⟨rfl, rfl⟩; rw [HVM.out])
        go_ret2
        refine ⟨_, by rw [HS.out]; rfl, ?_, HE.out⟩
        unfold vsplitR
        rw [HS.out, if_neg he]
        exact OwV.nil _ _ _

theorem wrap_sum (k z : Nat) (hk : k ≤ 56) (hz : z ≤ 255) : wrap64 ((k : Int) + wrap64 (z : Int)) = ((k + z : Nat) : Int) := by unfold wrap64; omega

set_option maxRecDepth 100000 in
set_option maxHeartbeats 1000000 in
theorem len64_any (x : Int) (n : Nat) (hx : x = n) (hn : n < 18446744073709551616) (w : World) :
    Calls Try.prog 19 #[.int .u64 x] w fun e w' => e = .returned (.int .i64 (blen n : Nat)) ∧ w = w' := by
  subst hx
  go_enter Try.func19, Try.ntmps19
  go_upto_if 4 with (fail)
  go_cut [0, 2] from 3 (fun x a w' => w' = w ∧ ∃ y k : Nat, y < 4294967296 ∧ Hid (blen n = k + blen y) ∧ k ≤ 32 ∧ x = .int .u64 y ∧ a = .int .i64 k)
  case first =>
    have hdec : decide ((4294967296 : Int) ≤ (n : Int)) = decide (4294967296 ≤ n) := by simp; omega
    rw [hdec]
    have HN := hid hn
    clear hdec hn
    cases hb : decide (4294967296 ≤ n)
    · have HB := hid hb
      clear hb
      go_wp2
      go_meet
      case rel =>
        have h1 := of_decide_eq_false HB.out
        exact ⟨rfl, n, 0, by omega, hid (by omega), by omega, rfl, rfl⟩
    · have HB := hid hb
      clear hb
      go_wp2
      go_meet
      case rel =>
        have h1 := of_decide_eq_true HB.out
        have h2 := HN.out
        exact ⟨rfl, n / 4294967296, 32, by omega, hid (blen_shift n 32 h1), by omega, by go_num, rfl⟩
  case rest =>
    obtain ⟨rfl, y, k, hy, HK, hk, rfl, rfl⟩ := hcut
    go_upto_if 8 with (fail)
    go_cut [0, 2] from 3 (fun x a w' => w' = wc ∧ ∃ y k : Nat, y < 65536 ∧ Hid (blen n = k + blen y) ∧ k ≤ 48 ∧ x = .int .u64 y ∧ a = .int .i64 k)
    case first =>
      have hdec : decide ((65536 : Int) ≤ (y : Int)) = decide (65536 ≤ y) := by simp; omega
      rw [hdec]
      have HY := hid hy
      clear hdec hy
      cases hb : decide (65536 ≤ y)
      · have HB := hid hb
        clear hb
        go_wp2
        go_meet
        case rel =>
          have h1 := of_decide_eq_false HB.out
          exact ⟨rfl, y, k, by omega, HK, by omega, rfl, rfl⟩
      · have HB := hid hb
        clear hb
        go_wp2
        go_meet
        case rel =>
          have h1 := of_decide_eq_true HB.out
          have h2 := HY.out
          exact ⟨rfl, y / 65536, k + 16, by omega, hid (by have := blen_shift y 16 h1; rw [show (2 : Nat) ^ 16 = 65536 from rfl] at this; rw [HK.out, this]; omega), by omega, by go_num, by go_num⟩
    case rest =>
      obtain ⟨rfl, y2, k2, hy2, HK2, hk2, rfl, rfl⟩ := hcut
      go_upto_if 14 with (fail)
      go_cut [0, 2] from 3 (fun x a w' => w' = wc ∧ ∃ y k : Nat, y < 256 ∧ Hid (blen n = k + blen y) ∧ k ≤ 56 ∧ x = .int .u64 y ∧ a = .int .i64 k)
      case first =>
        have hdec : decide ((256 : Int) ≤ (y2 : Int)) = decide (256 ≤ y2) := by simp; omega
        rw [hdec]
        have HY := hid hy2
        clear hdec hy2
        cases hb : decide (256 ≤ y2)
        · have HB := hid hb
          clear hb
          go_wp2
          go_meet
          case rel =>
            have h1 := of_decide_eq_false HB.out
            exact ⟨rfl, y2, k2, by omega, HK2, by omega, rfl, rfl⟩
        · have HB := hid hb
          clear hb
          go_wp2
          go_meet
          case rel =>
            have h1 := of_decide_eq_true HB.out
            have h2 := HY.out
            exact ⟨rfl, y2 / 256, k2 + 8, by omega, hid (by have := blen_shift y2 8 h1; rw [show (2 : Nat) ^ 8 = 256 from rfl] at this; rw [HK2.out, this]; omega), by omega, by go_num, by go_num⟩
      case rest =>
        obtain ⟨rfl, y3, k3, hy3, HK3, hk3, rfl, rfl⟩ := hcut
        have hmod : (y3 : Int) % 256 = y3 := by omega
        go_wp2_with fail
        go_ret
        refine ⟨?_, rfl⟩
        rw [HK3.out]
        refine congrArg (fun z => Ending.returned (.int .i64 z)) ((wrap_sum k3 _ hk3 ?_).trans (congrArg (fun z : Nat => ((k3 + z : Nat) : Int)) ?_))
        · have : ∀ b : UInt8, b.toNat ≤ 255 := fun b => by have := b.toNat_lt; omega
          exact this _
        · clear HK HK2 HK3 hmod hk3
          obtain ⟨i, rfl⟩ : ∃ i : Fin 256, y3 = i.val := ⟨⟨y3, hy3⟩, rfl⟩
          clear hy3
          revert i
          decide +kernel

theorem size_any (x : Int) (n : Nat) (hx : x = n) (hn : n < 18446744073709551616) (w : World) :
    Calls Try.prog 15 #[.int .u64 x] w fun e w' => e = .returned (.int .i64 (vsz n : Nat)) ∧ w = w' := by
  subst hx
  have hb : blen n ≤ 64 := by
    unfold blen
    split
    · omega
    · rename_i h0
      have := (Nat.log2_lt h0).2 (show n < 2 ^ 64 from hn)
      omega
  have hv : vsz n = max 1 ((blen n + 6) / 7) := rfl
  have HN := hid hn
  clear hn
  go_enter Try.func15, Try.ntmps15
  go_wp2_with (go_at_call 19; refine (len64_any _ n rfl HN.out _).mono ?_; rintro e w1 ⟨rfl, rfl⟩)
  all_goals
    go_ret
    refine ⟨congrArg (fun z => Ending.returned (.int .i64 z)) ?_, rfl⟩
    omega
end Go.Proofs.Ytbgploeklegfcaa
