/- DiskNames. -/
import Derived.Test.YtkaafllbmeppnaaDskL
import Derived.Sort.Walk0
set_option linter.unusedSimpArgs false
set_option linter.unusedVariables false
namespace Go.Proofs.Ytkaafllbmeppnaa
open Go Go.RowKit Go.Tum Go.ChangeMaps

theorem dirLen (s : PS) : (s.dir.map Prod.fst).length = s.dir.length := by simp
theorem doP_err {s : PS} {e : Nat} {act : PS → PS} (h : (doP s e act).1 ≠ 0) : (doP s e act).2.dir = s.dir := by
  unfold doP at *
  split
  · rfl
  · split
    · rfl
    · split
      · rfl
      · rename_i h1 h2 h3
        rw [if_neg h1, if_neg h2, if_neg h3] at h
        exact absurd rfl h
theorem doP_ok {s : PS} {e : Nat} {act : PS → PS} (h : (doP s e act).1 = 0) : s.down = false ∧ e = 0 ∧ doP s e act = (0, act (fusS s)) := by
  unfold doP at *
  split at h
  · cases h
  · rename_i h1
    split at h
    · rename_i h2; exact absurd h h2
    · rename_i h2
      split at h
      · cases h
      · rename_i h3
        refine ⟨by simpa using h1, by simpa using h2, ?_⟩
        rw [if_neg h1, if_neg h2, if_neg h3]
        rfl
theorem act_err_dir {s : PS} {a : At} (h : (actS s a).1 ≠ 0) : (actS s a).2.dir = s.dir := by
  unfold actS at *
  repeat' split
  all_goals simp only [*, if_true, if_false, ne_eq, not_true_eq_false, not_false_eq_true] at h
  all_goals first | exact doP_err h | rfl | exact absurd rfl h
theorem act_cre_len {s : PS} {a : At} (hw : WF s) (hd : a.dn = 0) (h : (actS s a).1 = 0) : (actS s a).2.dir.length = s.dir.length + 1 := by
  have e : actS s a = creP s a.name := by simp [actS, hd]
  rw [e] at h ⊢
  obtain ⟨h1, h2, h3⟩ := doP_ok h
  unfold creP
  rw [h3]
  have hlk : look s.dir a.name = none := by
    unfold creE at h2
    split at h2
    · cases h2
    split at h2
    · cases h2
    rename_i hlk
    cases hq : look s.dir a.name with
    | none => rfl
    | some f => rw [hq] at hlk; simp at hlk
  have e2 : ∀ f, dirAt (fusS s).sure ((fusS s).opn ++ [⟨[], a.name, some f⟩]) = inN s.dir a.name f := by
    intro f
    show dirAt s.sure (s.opn ++ [⟨[], a.name, some f⟩]) = _
    have e1 : dirAt s.sure (s.opn ++ [⟨[], a.name, some f⟩]) = appC s.dir ⟨[], a.name, some f⟩ := by unfold PS.dir dirAt; simp only [List.foldl_append, List.foldl_cons, List.foldl_nil]
    rw [e1]
    show inN (noN (noN s.dir []) a.name) a.name f = _
    rw [noN_nil hw.dir, noN_same hlk]
  show (dirAt (fusS s).sure ((fusS s).opn ++ [⟨[], a.name, some (fusS s).files.length⟩])).length = _
  rw [e2, inN_len]
theorem act_del_len {s : PS} {a : At} (hw : WF s) (hd : a.dn = 5) (h : (actS s a).1 = 0) : (actS s a).2.dir.length + 1 = s.dir.length := by
  have e : actS s a = delP s a.name := by simp [actS, hd]
  rw [e] at h ⊢
  obtain ⟨h1, h2, h3⟩ := doP_ok h
  unfold delP
  rw [h3]
  obtain ⟨f, hf⟩ := miss_some h2
  have e1 : dirAt s.sure (s.opn ++ [⟨a.name, [], none⟩]) = appC s.dir ⟨a.name, [], none⟩ := by unfold PS.dir dirAt; simp only [List.foldl_append, List.foldl_cons, List.foldl_nil]
  show (dirAt s.sure (s.opn ++ [⟨a.name, [], none⟩])).length + 1 = _
  rw [e1]
  show (noN s.dir a.name).length + 1 = _
  exact noN_len hw.dir.so (by rw [hf]; rfl)
theorem names_sorted {s : PS} (hw : WF s) (j : Nat) (h : j + 1 < (s.dir.map Prod.fst).length) : Op.bytesLess ((s.dir.map Prod.fst)[j]'(by omega)) ((s.dir.map Prod.fst)[j + 1]) = true := by
  have hs : (s.dir.map Prod.fst).Pairwise fun x y => x < y := List.pairwise_map.2 hw.dir.so
  rw [bytesLess_eq, decide_eq_true_eq]
  exact List.pairwise_iff_getElem.1 hs j (j + 1) (by omega) h (by omega)
/-- What a rename that went well leaves. -/
theorem ren_ok {s : PS} {f t : Nm} (h : (renP s f t).1 = 0) : rdE s f = 0 ∧ rdE (renP s f t).2 t = 0 ∧ rdB (renP s f t).2 t = rdB s f ∧ rdE (renP s f t).2 f = if f = t then 0 else 5 := by
  obtain ⟨h1, h2, h3⟩ := doP_ok h
  obtain ⟨g, hg⟩ : ∃ g, look s.dir f = some g := by
    unfold renE at h2
    split at h2
    · cases h2
    rename_i hlk
    cases hq : look s.dir f with
    | none => exact absurd hq hlk
    | some g => exact ⟨g, rfl⟩
  have e0 : renP s f t = (0, { fusS s with opn := (fusS s).opn ++ [⟨f, t, look s.dir f⟩] }) := h3
  have hdir : (renP s f t).2.dir = inN (noN (noN s.dir f) t) t g := by
    rw [e0, hg]
    show dirAt s.sure (s.opn ++ [⟨f, t, some g⟩]) = _
    have e1 : dirAt s.sure (s.opn ++ [⟨f, t, some g⟩]) = appC s.dir ⟨f, t, some g⟩ := by unfold PS.dir dirAt; simp only [List.foldl_append, List.foldl_cons, List.foldl_nil]
    rw [e1]
    rfl
  have hdn : (renP s f t).2.down = false := by rw [e0]; exact h1
  have hfs : (renP s f t).2.files = s.files := by rw [e0]; rfl
  have hnt : look (noN (noN s.dir f) t) t = none := by rw [look_noN, if_pos rfl]
  refine ⟨?_, ?_, ?_, ?_⟩
  · simp [rdE, h1, hg]
  · simp [rdE, hdn, hdir, look_inN hnt]
  · simp [rdB, hdn, h1, hdir, look_inN hnt, hfs, hg]
  · unfold rdE
    rw [hdn, hdir, look_inN hnt]
    by_cases e : f = t
    · simp [e]
    · simp only [Bool.false_eq_true, if_false, if_neg e, look_noN, if_true, if_neg (fun h : f = t => e h)]

set_option maxRecDepth 100000 in
set_option maxHeartbeats 1000000 in
theorem diskNames_law (room : Int) (v : Value) (fr to0 : Nm) (m : List AtV) (w : World) (hA : Acts w v m) (hfr : fr.length ≤ maxLen) (hto : to0.length ≤ maxLen) :
    Calls Try.prog 7 #[.int .i64 room, v, vN fr, vN to0] w fun e w' => e = .returned (.bool true) ∧ Ext w w' := by
  have HA := hid hA
  have HF := hid hfr
  have HT := hid hto
  obtain ⟨hrow, hokk⟩ := hA
  obtain ⟨ao, cap, rfl, hle, hm, hnn, hcell⟩ := hrow.open
  have HNN := hid hnn
  clear hrow hokk hcell hnn hfr hto
  go_enter Try.func7, Try.ntmps7
  go_wp2_with fail
  refine (awake_any _).mono ?_
  rintro e w1 ⟨rfl, hw⟩
  have HE1 := hid hw
  clear hw
  go_wp2_with fail
  refine (dnew_any w1 w.heap.size HE1.out.size room).mono ?_
  intro e w2 hn
  by_cases hr : 16 ≤ room ∧ room ≤ 1048576
  case neg =>
    obtain ⟨rfl, hE⟩ := hn.1 (by omega)
    have HE2 := hid (HE1.out.trans hE)
    clear hn hE hr
    go_wp2
    go_ret
    exact ⟨rfl, HE2.out⟩
  obtain ⟨p, x0, rfl, D, E, -⟩ := hn.2 hr.1 hr.2
  have HR : Hid (16 ≤ room ∧ room ≤ 1048576) := hid hr
  have HE2 := hid (HE1.out.trans E)
  have HD2 := hid D
  clear hn hr D E HE1
  go_wp2_with fail
  refine (large_any _ m w2 ⟨HA.out.1.ext HE2.out, fun q hq => (HA.out.2 q hq).ext HE2.out⟩).mono ?_
  rintro e w3 ⟨⟨r, rfl, hr⟩, hE⟩
  have HE3 : Hid (Ext w w3) := hid (HE2.out.trans hE)
  have HD3 := hid (HD2.out.ext hE)
  clear hE HD2 HE2
  cases r
  case true =>
    clear hr
    go_wp2
    go_ret
    exact ⟨rfl, HE3.out⟩
  have HS := hid (hr rfl)
  clear hr
  by_cases hs : decide ((1000 : Int) < wrap64 (((str fr).size : Int) + ((str to0).size : Int))) = true
  · go_wp2
    go_ret
    exact ⟨rfl, HE3.out⟩
  simp only [Bool.not_eq_true] at hs
  go_wp2
  clear hs
  go_loopw [47] (fun i wr => ∃ (k : Nat) (x : DX) (s : PS), k ≤ m.length ∧ i = .int .i64 k ∧ Hid (s.opn.length ≤ k) ∧ Hid (WF s) ∧ Hid (Dk w.heap.size wr p x s) ∧ Hid (Ext w wr)) (fun i _ => m.length - (intOf i).toNat)
  case atStart => exact ⟨0, x0, _, by omega, rfl, hid (by simp [newP]), hid (wf_new (by have := HR.out; omega)), HD3, HE3⟩
  case round =>
    obtain ⟨k, x, s, hk, rfl, HO, HW, HD, HE⟩ := hrel
    by_cases hlt : k < m.length
    · obtain ⟨a0, rfl⟩ := HNN.out (by omega)
      obtain ⟨dn, n, name, to, b, ts, uo, uc, vo, vc, hok, hbl, -, c0, c1, c2, c3, c4, c5⟩ := acts_at HA.out HE.out HS.out k hlt
      have hml := HS.out.1
      have HLT := hid hlt
      have hlow := hok.low
      have HOK := hid hok
      have HSM : Hid (b.length ≤ 1000 ∧ k ≤ 40) := hid ⟨hbl, by omega⟩
      have HLOW := hid hlow
      clear hok hlow hbl hml
      have hi1 : decide ((k : Int) < m.length) = true := by simp; omega
      have HE4 := hid (HE.out.trans (Ext.alloc wr (actO (⟨dn, n, name, to, b, ts⟩, .slice uo b.length uc, .slice vo ts.length vc))))
      have HB4 := hid (heap_alloc_new wr (actO (⟨dn, n, name, to, b, ts⟩, .slice uo b.length uc, .slice vo ts.length vc)))
      have HD4 := hid (HD.out.ext (Ext.alloc wr (actO (⟨dn, n, name, to, b, ts⟩, .slice uo b.length uc, .slice vo ts.length vc))))
      have HXL := hid HD.out.lt
      go_wp2_with fail
      clear c0 c1 c2 c3 c4 c5 hi1
      obtain ⟨ab, hab⟩ : ∃ ab, wr.heap.size = ab := ⟨_, rfl⟩
      rw [hab] at HB4 HXL ⊢
      have HAB : Hid (ab < (wr.alloc (actO (⟨dn, n, name, to, b, ts⟩, .slice uo b.length uc, .slice vo ts.length vc))).heap.size) := hid (by rw [← hab]; simp)
      clear hab
      refine (dNames_any HD4.out).mono ?_
      rintro e w5 ⟨⟨nv, rfl, ho⟩, hE5⟩
      generalize hW4 : wr.alloc (actO (⟨dn, n, name, to, b, ts⟩, .slice uo b.length uc, .slice vo ts.length vc)) = w4 at *
      clear hW4
      obtain ⟨NM, hNM⟩ : ∃ NM, s.dir.map Prod.fst = NM := ⟨_, rfl⟩
      rw [hNM] at ho
      have HNMX := hid hNM
      clear hNM
      obtain ⟨no, nc, rfl, -⟩ := ho.vec.open
      have HE6 := hid (HE4.out.trans hE5)
      have HB6 := hid (hE5.obj HB4.out)
      have HD6 := hid (HD4.out.ext hE5)
      have HAB6 := hid (Nat.lt_of_lt_of_le HAB.out hE5.size)
      clear ho hE5 HB4 HD4 HAB HE4
      obtain ⟨⟨e0, e1, e2, e3, e4, e5⟩, -⟩ := lk6 HB6.out
      by_cases h7 : dn = 7
      · subst h7
        go_wp2
        go_roundw
        case rel => exact ⟨k + 1, _, _, HLT.out, by go_num, hid (by have := HO.out; omega), HW, HD6, HE6⟩
        case measure =>
          have := HLT.out
          simp [intOf]; omega
      by_cases h8 : dn = 8
      · subst h8
        go_wp2
        go_roundw
        case rel => exact ⟨k + 1, _, _, HLT.out, by go_num, hid (by have := HO.out; omega), HW, HD6, HE6⟩
        case measure =>
          have := HLT.out
          simp [intOf]; omega
      have b7 : (dn == 7) = false := by simpa using h7
      have b8 : (dn == 8) = false := by simpa using h8
      go_wp2_with fail
      refine (do_any (B := w.heap.size) (⟨dn, n, name, to, b, ts⟩, .slice uo b.length uc, .slice vo ts.length vc) (HOK.out.ext HE6.out) HD6.out HE6.out.size HW.out (by have := HO.out; have := HSM.out.2; omega) (by have := HSM.out.1; show b.length ≤ 1048576; omega) HLOW.out).mono ?_
      rintro e w7 ⟨⟨rv, rfl, ho⟩, x7, hD7, hF7, hL7, hg7⟩
      dsimp only at hD7 ho ⊢
      obtain ⟨ro, rc, hrv, -⟩ := ho.byt.open
      subst hrv
      have HE7 := hid (Ext.below HE6.out hL7)
      have HB7 := hid ((hF7.block ab HAB6.out (fun hm => by have := HXL.out _ hm; omega)).trans HB6.out)
      have HD7 := hid hD7
      have HW7 := hid (HW.out.act ⟨dn, n, name, to, b, ts⟩ HOK.out.n)
      have HO7 : Hid ((actS s ⟨dn, n, name, to, b, ts⟩).2.opn.length ≤ k + 1) := hid (by have := HO.out; have := act_opn s ⟨dn, n, name, to, b, ts⟩; omega)
      have ha1 : (actS s ⟨dn, n, name, to, b, ts⟩).1 ≠ 0 → (actS s ⟨dn, n, name, to, b, ts⟩).2.dir.length = s.dir.length := fun h => by rw [act_err_dir h]
      have ha2 : dn = 0 → (actS s ⟨dn, n, name, to, b, ts⟩).1 = 0 → (actS s ⟨dn, n, name, to, b, ts⟩).2.dir.length = s.dir.length + 1 := fun hd h => act_cre_len HW.out hd h
      have ha3 : dn = 5 → (actS s ⟨dn, n, name, to, b, ts⟩).1 = 0 → (actS s ⟨dn, n, name, to, b, ts⟩).2.dir.length + 1 = s.dir.length := fun hd h => act_del_len HW.out hd h
      clear ho hD7 hF7 hL7 hg7 e0 e1 e2 e3 e4 e5 HE6 HB6 HD6 HAB6 HXL
      obtain ⟨R, hR⟩ : ∃ R, actS s ⟨dn, n, name, to, b, ts⟩ = R := ⟨_, rfl⟩
      rw [hR] at HD7 HW7 HO7 ha1 ha2 ha3 ⊢
      clear hR
      obtain ⟨er, s7⟩ := R
      dsimp only at HD7 HW7 HO7 ha1 ha2 ha3 ⊢
      obtain ⟨⟨e0, e1, e2, e3, e4, e5⟩, -⟩ := lk6 HB7.out
      go_wp2_with fail
      refine (dNames_any HD7.out).mono ?_
      rintro e w8 ⟨⟨nv2, rfl, ho⟩, hE⟩
      obtain ⟨NL, hNL⟩ : ∃ NL, s7.dir.map Prod.fst = NL := ⟨_, rfl⟩
      have hsrt : ∀ j (h : j + 1 < NL.length), Op.bytesLess (NL[j]'(by omega)) NL[j + 1] = true := by rw [← hNL]; exact fun j h => names_sorted HW7.out j h
      have HSRT := hid hsrt
      have hl1 : NM.length = s.dir.length := by rw [← HNMX.out, List.length_map]
      have hl2 : NL.length = s7.dir.length := by rw [← hNL, List.length_map]
      have hl3 : NM.length ≤ 60 := by rw [hl1]; exact HW.out.dir.le
      have hl4 : NL.length ≤ 60 := by rw [hl2]; exact HW7.out.dir.le
      rw [← hl1, ← hl2] at ha1 ha2 ha3
      have HL := hid (And.intro ha1 (And.intro ha2 (And.intro ha3 (And.intro hl3 hl4))))
      rw [hNL] at ho
      obtain ⟨no2, nc2, rfl, hle2, hm2, hnn2, hcell2⟩ := ho.vec.open
      have HC2 := hid hcell2
      have HNN2 := hid hnn2
      have HE8 := hid (HE7.out.trans hE)
      have HB8 := hid (hE.obj HB7.out)
      have HD8 := hid (HD7.out.ext hE)
      clear ho hE HE7 HB7 HD7 hNL hsrt hl1 hl2 hl3 hl4 ha1 ha2 ha3 hcell2 hnn2 e0 e1 e2 e3 e4 e5 HNMX
      go_wp2
      go_loopw [72] (fun i wz => ∃ (j : Nat), j ≤ NL.length ∧ i = .int .i64 j ∧ ∃ nn, wz = w8.drewN nn) (fun i _ => NL.length - (intOf i).toNat)
      case atStart => exact ⟨0, by omega, rfl, 0, rfl⟩
      case round =>
        obtain ⟨j, hj, rfl, nn, rfl⟩ := hrel
        by_cases hlj : j < NL.length
        · obtain ⟨a2, rfl⟩ := HNN2.out (by omega)
          have hi2 : decide ((j : Int) < NL.length) = true := by simp; omega
          rcases j with _ | j
          · go_wp2
            go_quiet (fail)
            go_wp2
            go_roundw
            case rel => exact ⟨1, by omega, by go_num, _, rfl⟩
            case measure => simp [intOf]; omega
          · have cA := HC2.out a2 rfl j (by omega)
            have cB := HC2.out a2 rfl (j + 1) hlj
            have hord := HSRT.out j hlj
            obtain ⟨n1, hn1⟩ : ∃ n1, NL[j]'(by omega) = n1 := ⟨_, rfl⟩
            obtain ⟨n2, hn2⟩ : ∃ n2, NL[j + 1] = n2 := ⟨_, rfl⟩
            rw [hn1] at cA hord
            rw [hn2] at cB hord
            clear hn1 hn2
            have hj1 : (j : Int) + 1 - 1 = (j : Int) := by omega
            have hi0 : decide ((0 : Int) < (j : Int) + 1) = true := by rw [decide_eq_true_eq]; omega
            have hi9 : decide ((j : Int) + 1 < NL.length) = true := by rw [decide_eq_true_eq]; omega
            have hbd := HL.out.2.2.2.2
            have hwr : IntKind.i64.wrap (j : Int) = (j : Int) := IntWalk.i64_in _ (by omega)
            have hm3 : (j : Int) < NL.length := by omega
            have hm4 : (j : Int) + 1 < NL.length := by omega
            have hbo : binOp .geq 9 (vN n1) (vN n2) = pure (.bool false) := by simp [binOp, Op.stringOp, str_toList, hord]
            have hm5 : (0 : Int) ≤ (j : Int) + 1 := by omega
            have cB2 : w8.cell? ⟨a2.block, a2.off + (j + 1), none⟩ = some (vN n2) := by
              have e1 : a2.add (j + 1) = ⟨a2.block, a2.off + (j + 1), none⟩ := by unfold Addr.add; split <;> simp_all
              rw [← e1]; exact cB
            go_wp2
            go_quiet (fail)
            go_wp2
            go_roundw
            case rel => exact ⟨j + 2, by omega, by go_num, _, rfl⟩
            case measure => simp [intOf]; omega
        · obtain rfl : j = NL.length := by omega
          obtain ⟨⟨e0, e1, e2, e3, e4, e5⟩, -⟩ := lk6 ((Ext.drewN w8 nn).obj HB8.out)
          have HE9 := hid (HE8.out.trans (Ext.drewN w8 nn))
          have HD9 := hid (HD8.out.ext (Ext.drewN w8 nn))
          obtain ⟨ha1, ha2, ha3, hl3, hl4⟩ := HL.out
          by_cases her : er = 0
          · subst her
            by_cases h0 : dn = 0
            · subst h0
              have := ha2 rfl rfl
              have hq : ((NL.length : Int) != (NM.length : Int) + 1) = false := by simp; omega
              clear ha1 ha2 ha3 this
              go_wp2
              go_roundw
              case rel => exact ⟨k + 1, _, _, HLT.out, by go_num, HO7, HW7, HD9, HE9⟩
              case measure =>
                have := HLT.out
                simp [intOf]; omega
            have b0 : (dn == 0) = false := by simpa using h0
            by_cases h5 : dn = 5
            · subst h5
              have := ha3 rfl rfl
              have hq : ((NL.length : Int) != (NM.length : Int) - 1) = false := by simp; omega
              clear ha1 ha2 ha3 this
              go_wp2
              go_roundw
              case rel => exact ⟨k + 1, _, _, HLT.out, by go_num, HO7, HW7, HD9, HE9⟩
              case measure =>
                have := HLT.out
                simp [intOf]; omega
            have b5 : (dn == 5) = false := by simpa using h5
            clear ha1 ha2 ha3
            go_wp2
            go_roundw
            case rel => exact ⟨k + 1, _, _, HLT.out, by go_num, HO7, HW7, HD9, HE9⟩
            case measure =>
              have := HLT.out
              simp [intOf]; omega
          · have hq : ((NL.length : Int) != (NM.length : Int)) = false := by have := ha1 her; simp; omega
            have be : ((er : Int) == 0) = false := by simp; omega
            have bn : ((er : Int) != 0) = true := by simp; omega
            clear ha1 ha2 ha3
            by_cases h0 : dn = 0
            · subst h0
              go_wp2
              go_roundw
              case rel => exact ⟨k + 1, _, _, HLT.out, by go_num, HO7, HW7, HD9, HE9⟩
              case measure =>
                have := HLT.out
                simp [intOf]; omega
            have b0 : (dn == 0) = false := by simpa using h0
            by_cases h5 : dn = 5
            · subst h5
              go_wp2
              go_roundw
              case rel => exact ⟨k + 1, _, _, HLT.out, by go_num, HO7, HW7, HD9, HE9⟩
              case measure =>
                have := HLT.out
                simp [intOf]; omega
            have b5 : (dn == 5) = false := by simpa using h5
            go_wp2
            go_roundw
            case rel => exact ⟨k + 1, _, _, HLT.out, by go_num, HO7, HW7, HD9, HE9⟩
            case measure =>
              have := HLT.out
              simp [intOf]; omega
    · obtain rfl : k = m.length := by omega
      go_wp2_with fail
      refine (dread_any fr HF.out HD.out).mono ?_
      rintro e w5 ⟨⟨v5, rfl, ho⟩, hE⟩
      obtain ⟨o5, c5, rfl, -⟩ := ho.byt.open
      have HV5 := hid ho
      have HE5 := hid (HE.out.trans hE)
      have HX5 := hid HD.out.lt
      have HD5 := hid (HD.out.ext hE)
      clear ho hE
      go_wp2_with fail
      refine (drename_any fr to0 HF.out HT.out (by have := HO.out; have := HS.out.1; omega) HD5.out HE5.out.size (HW.out.ren fr to0).gd).mono ?_
      rintro e w6 ⟨rfl, x6, hD, hF, hL, hg⟩
      have HE6 := hid (Ext.below HE5.out hL)
      by_cases her : (renP s fr to0).1 = 0
      case neg =>
        obtain ⟨er, hee⟩ : ∃ er, (renP s fr to0).1 = er := ⟨_, rfl⟩
        rw [hee] at her ⊢
        have bn : ((er : Int) != 0) = true := by simp; omega
        clear hee hD hF hL hg
        go_wp2
        go_ret
        exact ⟨rfl, HE6.out⟩
      obtain ⟨q1, q2, q3, q4⟩ := ren_ok her
      have HV6 := hid (Own.byt (own_keep HV5.out HX5.out hF))
      have HD6 := hid hD
      have HQ1 := hid q1
      have HQ2 := hid q2
      have HQ3 := hid q3
      have HQ4 := hid q4
      rw [her, q1]
      clear hD hF hL hg q1 q2 q3 q4 her HE5 HV5 HD5 HX5
      go_wp2_with fail
      refine (dread_any to0 HT.out HD6.out).mono ?_
      rintro e w7 ⟨⟨v7, rfl, ho⟩, hE⟩
      rw [HQ3.out] at ho
      obtain ⟨o7, c7, rfl, -⟩ := ho.byt.open
      rw [HQ2.out]
      have HV7 := hid ho.byt
      have HV6b := hid (HV6.out.ext hE)
      have HE7 := hid (HE6.out.trans hE)
      have HD7 := hid (HD6.out.ext hE)
      clear ho hE HE6 HD6 HV6
      go_wp2_with fail
      refine (dread_any fr HF.out HD7.out).mono ?_
      rintro e w8 ⟨⟨v8, rfl, ho⟩, hE⟩
      obtain ⟨o8, c8, rfl, -⟩ := ho.byt.open
      rw [HQ4.out]
      have HV8 := hid (HV7.out.ext hE)
      have HV8b := hid (HV6b.out.ext hE)
      have HE8 := hid (HE7.out.trans hE)
      clear ho hE HE7 HD7 HV6b HV7
      obtain ⟨lb, hlb⟩ : ∃ l, rdB s fr = l := ⟨_, rfl⟩
      rw [hlb] at HV8 HV8b ⊢
      clear hlb
      by_cases he : fr = to0
      · have hst : (fr == to0) = true := by simpa using he
        rw [if_pos he]
        clear he
        go_wp2_with fail
        refine (rsame_any _ _ lb lb _ HV8b.out HV8.out).mono ?_
        rintro e w9 ⟨rfl, hE⟩
        have HE9 := hid (HE8.out.trans hE)
        have hself : (lb == lb) = true := by simp
        rw [hself]
        clear hE
        go_wp2
        go_ret
        exact ⟨rfl, HE9.out⟩
      · rw [if_neg he]
        clear he
        go_wp2_with fail
        refine (rsame_any _ _ lb lb _ HV8b.out HV8.out).mono ?_
        rintro e w9 ⟨rfl, hE⟩
        have HE9 := hid (HE8.out.trans hE)
        have hself : (lb == lb) = true := by simp
        rw [hself]
        clear hE
        go_wp2
        go_ret
        exact ⟨rfl, HE9.out⟩
end Go.Proofs.Ytkaafllbmeppnaa
