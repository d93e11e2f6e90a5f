/- The dead: Add; cmp's functions. -/
import Derived.Test.YtfpljeblehieiaaDoorDedA
import Derived.Sort.Grow
set_option linter.unusedSimpArgs false
set_option linter.unusedVariables false
namespace Go.Proofs.YtfpljeblehieiaaDoor
open Go Go.RowKit Go.Tum Go.ChangeMaps Go.Sort
open Go.ParB (upd Lof)
open Go.ParE (putS slotsR slots Closed)

/-- One operation that turns the world, behind reads. -/
def OneQ (W : World) (P : World → Prop) (i : Nat) (_ : Nat → Value) (w' : World) : Prop := (i < 1 → Ext W w') ∧ match i with
  | 1 => P w'
  | _ => True
theorem u64_mod (x : UInt64) : ((x.toNat : Int) + 1) % 18446744073709551616 = ((x + 1).toNat : Int) := by
  rw [UInt64.toNat_add]
  simp
theorem len_filter_lt {α : Type} {p : α → Bool} {l : List α} : (l.filter p).length ≤ l.length := List.length_filter_le _ _
set_option maxRecDepth 100000 in
set_option maxHeartbeats 1000000 in
theorem dadd_any {w : World} {p mp ms : Nat} {s : PD} (x : UInt64) (h : DD w p mp ms s) (hlr : s.rows.length ≤ 99999) :
    Calls Tryd.prog 25 #[pv p, vU x] w fun e w' => ActD w p mp ms (addD s x).1 (addD s x).2 e w' := by
  have H := hid h
  have HLR := hid hlr
  obtain ⟨c0, -, -, ff⟩ := lk3 h.hd
  have f0 := ff 0
  have C0 := hid c0
  have F0 := hid f0
  clear h ff hlr c0 f0
  go_enter Tryd.func25, Tryd.ntmps25
  go_wp2_with fail
  refine (dhas_any x H.out).mono ?_
  rintro e w1 ⟨rfl, rfl⟩
  cases hlk : (s.rows.lookup x).isSome
  case true =>
    have HA : Hid (addD s x = (false, s)) := hid (by unfold addD; rw [if_pos hlk])
    clear hlk
    go_wp2
    go_ret
    unfold ActD
    rw [HA.out]
    exact ⟨rfl, H.out, Fr.refl _ _⟩
  have hno : s.rows.lookup x = none := by
    cases hq : s.rows.lookup x with
    | none => rfl
    | some b => rw [hq] at hlk; cases hlk
  have HNO := hid hno
  have HA : Hid (addD s x = (true, { s with last := s.last + 1, rows := s.rows ++ [(x, s.last + 1)] })) := hid (by unfold addD; rw [if_neg (by rw [hlk]; decide)])
  have c0 := C0.out
  have f0 := F0.out
  clear hlk hno
  go_wp2_with fail
  rw [u64_add1]
  have hF0 : Fr [p] w (w.setCell ⟨p, 0, none⟩ (vU (s.last + 1))) := fr_setCell _ _ _ (by simp)
  have HD1 : Hid (DD (w.setCell ⟨p, 0, none⟩ (vU (s.last + 1))) p mp ms { s with last := s.last + 1 }) := hid (by
    obtain ⟨l, hl, pl⟩ := H.out.rm
    obtain ⟨k, hk, pk⟩ := H.out.sm
    exact ⟨block_set H.out.hd 0 _, ⟨l, hl.fr hF0 (by simpa using H.out.pm.symm), pl⟩, ⟨k, hk.fr hF0 (by simpa using H.out.ps.symm), pk⟩, H.out.ne, H.out.nr, H.out.ns, H.out.lr, H.out.ls⟩)
  have HF0 := hid hF0
  generalize w.setCell ⟨p, 0, none⟩ (vU (s.last + 1)) = W1 at *
  clear hF0 c0 f0
  refine ParE.wp_region_e (l := [_, _, _, _, _, _, _, _, _, _]) rfl (Rg.Ch [9] [] (OneQ W1 fun w' => DD w' p mp ms { s with last := s.last + 1, rows := s.rows ++ [(x, s.last + 1)] } ∧ Fr [p, mp, ms] W1 w')) (ParC.VC [ParC.EQ (pv p), ParC.EQ (pv p), ParC.EQ (Value.pointer (some ⟨p, 1, none⟩)), ParC.EQ (Value.map (some mp)), ParC.EQ (vU x), ParC.EQ (pv p), ParC.EQ (pv p), ParC.EQ (Value.pointer (some ⟨p, 0, none⟩)), ParC.EQ (vU (s.last + 1)), fun _ => True]) (by kernel_rfl) (by kernel_rfl) (Rg.Ch.start ⟨fun _ => Ext.draw _, trivial⟩) ?_ ?_
  · refine ⟨fun L ρ w' hR hC hL hd hk => ?_, ?_⟩
    · exact Par.val_of_run rfl ⟨hR.other (by decide), hk.1⟩
    refine ⟨fun L ρ w' hR hC hL hd hk => ?_, ?_⟩
    · obtain ⟨k0, -⟩ := hk
      have e0 : ρ (.tmp 15) = pv p := k0
      clear k0
      refine Par.val_k fun K hK => ?_
      unfold Par.val
      (go_simp; exact hK _ _ ⟨hR.other (by decide), rfl⟩)
    refine ⟨fun L ρ w' hR hC hL hd hk => ?_, ?_⟩
    · obtain ⟨k0, -⟩ := hk
      have e0 : ρ (.tmp 16) = pv p := k0
      clear k0
      refine Par.val_k fun K hK => ?_
      unfold Par.val
      (go_simp; exact hK _ _ ⟨hR.other (by decide), rfl⟩)
    refine ⟨fun L ρ w' hR hC hL hd hk => ?_, ?_⟩
    · obtain ⟨k0, -⟩ := hk
      have e0 : ρ (.tmp 17) = Value.pointer (some ⟨p, 1, none⟩) := k0
      clear k0
      refine Par.val_k fun K hK => ?_
      unfold Par.val
      (obtain ⟨i, hi, hq⟩ := hR.some 0 rfl (hC.notyet 9 3 hL (by kernel_rfl)); have cc := (lk3 (HD1.out.ext (hq.1 (by omega))).hd).2.1; go_simp; exact hK _ _ ⟨hR.other (by decide), rfl⟩)
    refine ⟨fun L ρ w' hR hC hL hd hk => ?_, ?_⟩
    · exact Par.val_of_run rfl ⟨hR.other (by decide), hk.1⟩
    refine ⟨fun L ρ w' hR hC hL hd hk => ?_, ?_⟩
    · exact Par.val_of_run rfl ⟨hR.other (by decide), hk.1⟩
    refine ⟨fun L ρ w' hR hC hL hd hk => ?_, ?_⟩
    · obtain ⟨k0, -⟩ := hk
      have e0 : ρ (.tmp 20) = pv p := k0
      clear k0
      refine Par.val_k fun K hK => ?_
      unfold Par.val
      (go_simp; exact hK _ _ ⟨hR.other (by decide), rfl⟩)
    refine ⟨fun L ρ w' hR hC hL hd hk => ?_, ?_⟩
    · obtain ⟨k0, -⟩ := hk
      have e0 : ρ (.tmp 21) = pv p := k0
      clear k0
      refine Par.val_k fun K hK => ?_
      unfold Par.val
      (go_simp; exact hK _ _ ⟨hR.other (by decide), rfl⟩)
    refine ⟨fun L ρ w' hR hC hL hd hk => ?_, ?_⟩
    · obtain ⟨k0, -⟩ := hk
      have e0 : ρ (.tmp 22) = Value.pointer (some ⟨p, 0, none⟩) := k0
      clear k0
      refine Par.val_k fun K hK => ?_
      unfold Par.val
      (obtain ⟨i, hi, hq⟩ := hR.some 0 rfl (hC.notyet 9 8 hL (by kernel_rfl)); have cc := (lk3 (HD1.out.ext (hq.1 (by omega))).hd).1; go_simp; exact hK _ _ ⟨hR.other (by decide), rfl⟩)
    refine ⟨fun L ρ w' hR hC hL hd hk => ?_, ?_⟩
    · obtain ⟨k0, k1, k2, -⟩ := hk
      have e0 : ρ (.tmp 18) = Value.map (some mp) := k0
      have e1 : ρ (.tmp 19) = vU x := k1
      have e2 : ρ (.tmp 23) = vU (s.last + 1) := k2
      clear k0 k1 k2
      refine Par.val_k fun K hK => ?_
      unfold Par.val
      (obtain ⟨hq, hs⟩ := hR.go 0 rfl hL (.inl rfl) (by decide); have hx := hq.1 (by decide); have hD := HD1.out.ext hx; obtain ⟨l, hl, pl⟩ := hD.rm; obtain ⟨w3, hrun, hl2, ht⟩ := hl.store Tryd.underlying65 (by have := pl.length_eq; have := HLR.out; dsimp only at *; omega) (perm_nodup pl hD.nr) x (s.last + 1); have hlk : l.lookup x = none := (perm_lookup pl hD.nr x).trans HNO.out; have hF3 := fr_turned (S := [mp]) ht (by simp); have hres : Hid (DD w3 p mp ms { s with last := s.last + 1, rows := s.rows ++ [(x, s.last + 1)] } ∧ Fr [p, mp, ms] W1 w3) := hid ⟨⟨(hF3.block p hD.lt.1 (by simpa using hD.pm)).trans hD.hd, ⟨_, hl2, by rw [noK_none hlk]; exact (List.Perm.cons _ pl).trans (List.perm_append_singleton _ _).symm⟩, (by obtain ⟨k, hk2, pk⟩ := hD.sm; exact ⟨k, hk2.fr hF3 (by simpa using hD.ne.symm), pk⟩), hD.ne, by (have h7 := hD.nr; simp only [List.map_append, List.map_cons, List.map_nil]; refine List.nodup_append.2 ⟨h7, by simp, fun a ha b hb => ?_⟩; simp at hb; subst hb; intro e; exact lku_none.1 HNO.out (e ▸ ha)), hD.ns, by (have := HLR.out; simp; omega), hD.ls⟩, (Ext.fr hx).trans (hF3.mono (by simp))⟩; clear hl2 ht hF3 pl hlk hl hD; go_simp; exact hK _ _ ⟨hs none _ _ ⟨fun h => absurd h (by decide), hres.out⟩, trivial⟩)
    trivial
  intro a' w' inv hR
  have q15 : a'.tmps.getD 15 undef = pv p := inv.done 0 _ 15 rfl rfl rfl
  have q16 : a'.tmps.getD 16 undef = pv p := inv.done 1 _ 16 rfl rfl rfl
  have q17 : a'.tmps.getD 17 undef = Value.pointer (some ⟨p, 1, none⟩) := inv.done 2 _ 17 rfl rfl rfl
  have q18 : a'.tmps.getD 18 undef = Value.map (some mp) := inv.done 3 _ 18 rfl rfl rfl
  have q19 : a'.tmps.getD 19 undef = vU x := inv.done 4 _ 19 rfl rfl rfl
  have q20 : a'.tmps.getD 20 undef = pv p := inv.done 5 _ 20 rfl rfl rfl
  have q21 : a'.tmps.getD 21 undef = pv p := inv.done 6 _ 21 rfl rfl rfl
  have q22 : a'.tmps.getD 22 undef = Value.pointer (some ⟨p, 0, none⟩) := inv.done 7 _ 22 rfl rfl rfl
  have q23 : a'.tmps.getD 23 undef = vU (s.last + 1) := inv.done 8 _ 23 rfl rfl rfl
  clear inv
  simp only [List.filterMap_cons, List.filterMap_nil, Par.putAll, Act.put, List.setIfInBounds_toArray, List.set_cons_succ, List.set_cons_zero, q15, q16, q17, q18, q19, q20, q21, q22, q23]
  clear q15 q16 q17 q18 q19 q20 q21 q22 q23
  obtain ⟨-, hrd, hf⟩ := Rg.Ch.fin hR (by decide) 1 rfl; have HRD := hid hrd; have HF := hid hf; clear hrd hf hR
  try clear a'
  go_wp2
  go_ret
  unfold ActD
  rw [HA.out]
  exact ⟨rfl, HRD.out, (HF0.out.mono (by simp)).trans HF.out⟩
/-- New blocks and draws, nothing else. -/
def Grw (w w' : World) : Prop := ∃ q os, w' = grow (w.drewN q) os
end Go.Proofs.YtfpljeblehieiaaDoor
