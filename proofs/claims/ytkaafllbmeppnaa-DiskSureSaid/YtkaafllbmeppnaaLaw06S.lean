/- DiskSure. -/
import Derived.Test.YtkaafllbmeppnaaDskQ
import Derived.Maps.AppendAt
set_option linter.unusedSimpArgs false
set_option linter.unusedVariables false
namespace Go.Proofs.Ytkaafllbmeppnaa
open Go Go.RowKit Go.Tum Go.ChangeMaps Go.WideShapes Go.ChangeShapes

section
variable {P : Program}
/-- 'append(s, x...)' of bytes, and where the result lies. -/
theorem run_append_byt_at (base t ty e : Nat) (ht : P.underlying t = some (.slice e)) (hi : (P.info? e).map (fun i => (i.zero, i.size, i.bytes)) = some (some (.int .u8 0), 1, 1))
    {w : World} {v u : Value} {l1 l2 : List UInt8} (hown : Own w base e v l1) (hsl : Byt w u l2) (hb : l1.length + l2.length ≤ 140737488355328) (hbase : base ≤ w.heap.size) :
    ∃ ao cap w', (Builtin.append_ #[t, t] ty #[v, u]).run P w = .ok (.slice ao (l1.length + l2.length) cap) w' ∧ Own w' base e (.slice ao (l1.length + l2.length) cap) (l1 ++ l2) ∧ w.grownBy w' v.ownBlock ∧ Below base w w' ∧
      ((Value.slice ao (l1.length + l2.length) cap).ownBlock = v.ownBlock ∨ (Value.slice ao (l1.length + l2.length) cap).ownBlock = some w.heap.size) := by
  obtain ⟨i, hi1, hz, hs, hby⟩ := info_parts hi
  obtain ⟨hl, ao, cap, rfl, h3, h4, h5, h6⟩ := hsl
  have hlt := @World.ownsRow.lt w base e 1 v l1.length (l1.map bv) hown
  cases ao with
  | none =>
    have hcap := h5 rfl
    subst hcap
    have hm : l2.length = 0 := by omega
    have hl2 : l2 = [] := List.length_eq_zero_iff.1 hm
    subst hl2
    have hr := run_append_owned_none (P := P) w base t ty e i 1 ht hi1 v l1.length (l1.map bv) hown
    have hv : ∃ ao cap, v = .slice ao l1.length cap := by
      rcases hown.2 with ⟨a, b⟩ | ⟨g, cap, cur, hv, _⟩
      · rw [b]; exact ⟨_, _, a⟩
      · exact ⟨_, _, hv⟩
    obtain ⟨ao, cap, hv⟩ := hv
    subst hv
    exact ⟨ao, cap, w, by simpa using hr, by simpa using hown, World.grownBy.refl _ _, Below.refl _ _, .inl rfl⟩
  | some a =>
    obtain ⟨v', w', hr, ho, hg, _, hat⟩ := run_append_own_at (P := P) w base t ty e i (.int .u8 0) 1 1 ht hi1 hz hs hby rfl (by decide) v l1.length (l1.map bv) hown a l2.length cap (l2.map bv) (by simp) (fun j u hu => h6 a rfl j u hu) (bv_one _) (by simp [maxLen]; omega) (by omega) hbase
    have hv : ∃ ao cap, v' = .slice ao (l1.length + l2.length) cap := by
      rcases ho.2 with ⟨a, b⟩ | ⟨g, cap, cur, hv, _⟩
      · rw [b]; exact ⟨_, _, a⟩
      · exact ⟨_, _, hv⟩
    obtain ⟨ao, cap', rfl⟩ := hv
    exact ⟨ao, cap', w', hr, by unfold Own; simpa using ho, hg, (Below.refl _ _).grown hg hbase fun k hk => (hlt k hk).1, hat⟩
theorem wpList_append_byt_at {ops : Array Oper} {rest : List Oper} {o : Oper} {a : Act} {w : World} {Q : Exit → Act → World → Prop} (hgd : o.guard = none) (s x : Operand) (t : Nat)
    (ho : o.op = .call { callee := .builtin .append, args := #[s, x], argTypes := #[t, t] }) (base e : Nat) (ht : P.underlying t = some (.slice e))
    (hi : (P.info? e).map (fun i => (i.zero, i.size, i.bytes)) = some (some (.int .u8 0), 1, 1))
    {v : Value} {l1 : List UInt8} (hs : a.eval s = v) (hown : Own w base e v l1) {u : Value} {l2 : List UInt8} (hx : a.eval x = u) (hsl : Byt w u l2)
    (N : Nat) (hN : N = l1.length + l2.length) (hb : N ≤ 140737488355328) (hbase : base ≤ w.heap.size)
    (h : ∀ ao cap w', Own w' base e (.slice ao N cap) (l1 ++ l2) → w.grownBy w' v.ownBlock → Below base w w' → ((Value.slice ao N cap).ownBlock = v.ownBlock ∨ (Value.slice ao N cap).ownBlock = some w.heap.size) → wpList P ops Q rest (a.put o.dst (.slice ao N cap)) w') :
    wpList P ops Q (o :: rest) a w := by
  subst hN
  obtain ⟨ao, cap, w', hr, h2, h3, h4, h5⟩ := run_append_byt_at (P := P) base t o.type e ht hi hown hsl hb hbase
  refine wpList_plain hgd fun K hK => ?_
  unfold Oper.wp execOp
  subst hs hx
  simp only [ho, resolve, invoke, builtin, Sem.run_bind, Sem.run_pure, Result.andThen_ok, List.map_toArray, List.map_cons, List.map_nil, hr]
  exact hK _ _ (h ao cap w' h2 h3 h4 h5)
end
section
variable {H : Type} {enc : TypeId × Value → H} {w : World} {base : Nat} {held : Bool}
set_option maxRecDepth 100000 in
theorem open_iv {v : Value} {d : DataW H} {p : List MemPlace} {r : Reach} {b0 : Nat} (hval : Value.okWide Try.prog w r b0 33 v) (h : DataW.Trod enc Try.prog w base (fun _ => true) held 33 v d p) :
    ∃ l : List Int, Vec Go.Tum.iv w v l ∧ ∀ t ∈ l, i64 t := by
  obtain ⟨a, len, cap, rfl⟩ := okWide_slice Try.underlying33 hval
  obtain ⟨fuel, hf⟩ := h
  exact open_ivs hf
end
abbrev U1 (nm : Nm) : PS := ⟨131072, [([], 0)], [], [⟨[], nm, some 0⟩], -1, false⟩
abbrev U2 (nm : Nm) (b : List UInt8) : PS := ⟨131072, [(b, 0)], [], [⟨[], nm, some 0⟩], -1, false⟩
abbrev U3 (nm : Nm) (b : List UInt8) : PS := ⟨131072, [(b, b.length)], [], [⟨[], nm, some 0⟩], -1, false⟩
abbrev U4 (nm : Nm) (b : List UInt8) : PS := ⟨131072, [(b, b.length)], [(nm, 0)], [], -1, false⟩
theorem u1_of {nm : Nm} (h : (creP (newP 131072) nm).1 = 0) : creP (newP 131072) nm = (0, U1 nm) := by
  have h0 : creE (newP 131072) nm = 0 := by
    unfold creP doP at h
    split at h
    · cases h
    · split at h
      · rename_i q; exact absurd h q
      · rename_i q; simpa using q
  unfold creP doP
  rw [if_neg (by simp [newP]), if_neg (by simp [h0]), if_neg (by simp [newP])]
  rfl
theorem u_dir (nm : Nm) (fs : List (List UInt8 × Nat)) : PS.dir ⟨131072, fs, [], [⟨[], nm, some 0⟩], -1, false⟩ = [(nm, 0)] := by
  show appC [] ⟨[], nm, some 0⟩ = _
  simp [appC, noN, inN]
theorem u2_of {nm : Nm} {b : List UInt8} (h : b.length ≤ 1000) : appP (U1 nm) nm b = (0, U2 nm b) := by
  have hl : look (U1 nm).dir nm = some 0 := by rw [u_dir]; simp [look]
  have hh : held (U1 nm) = 0 := by simp [held, cntd, newOf, sumL, flen]
  have he : appE (U1 nm) nm b = 0 := by
    unfold appE
    rw [hl, hh]
    rw [if_neg (by simp), if_neg (by show ¬ (131072 < 0 + b.length); omega)]
  unfold appP doP
  rw [if_neg (by simp), he, if_neg (by simp), if_neg (by simp)]
  show (0, ({ fusS (U1 nm) with files := setF (U1 nm).files (look (U1 nm).dir nm) fun x => (x.1 ++ b, x.2) } : PS)) = _
  rw [hl]
  rfl
theorem u3_of {nm : Nm} {b : List UInt8} : synP (U2 nm b) nm = (0, U3 nm b) := by
  have hl : look (U2 nm b).dir nm = some 0 := by rw [u_dir]; simp [look]
  have he : missP (U2 nm b) nm = 0 := by unfold missP; rw [hl]; rfl
  unfold synP doP
  rw [if_neg (by simp), he, if_neg (by simp), if_neg (by simp)]
  show (0, ({ fusS (U2 nm b) with files := setF (U2 nm b).files (look (U2 nm b).dir nm) fun x => (x.1, x.1.length) } : PS)) = _
  rw [hl]
  rfl
theorem u4_of {nm : Nm} {b : List UInt8} : dsyP (U3 nm b) = (0, U4 nm b) := by
  unfold dsyP doP
  rw [if_neg (by simp), if_neg (by simp), if_neg (by simp)]
  show (0, ({ fusS (U3 nm b) with sure := (U3 nm b).dir, opn := [] } : PS)) = _
  rw [u_dir]
  rfl
theorem u4_si (nm : Nm) (b : List UInt8) : SI (U4 nm b) nm b b.length := ⟨fun k => by simp [dirAt, look], rfl⟩
theorem uw {nm : Nm} {b : List UInt8} (hc : (creP (newP 131072) nm).1 = 0) (hb : b.length ≤ 1000) : WF (U1 nm) ∧ WF (U2 nm b) ∧ WF (U3 nm b) ∧ WF (U4 nm b) := by
  have w1 : WF (U1 nm) := by have := (wf_new (room := 131072) (by decide)).cre nm; rw [u1_of hc] at this; exact this
  have w2 : WF (U2 nm b) := by have := w1.app nm b; rw [u2_of hb] at this; exact this
  have w3 : WF (U3 nm b) := by have := w2.syn nm; rw [u3_of] at this; exact this
  have w4 : WF (U4 nm b) := by have := w3.dsy; rw [u4_of] at this; exact this
  exact ⟨w1, w2, w3, w4⟩

set_option maxRecDepth 100000 in
set_option maxHeartbeats 1000000 in
theorem diskSure_law (nm : Nm) (uv : Value) (fb : List UInt8) (v : Value) (m : List AtV) (opn : Int) (tv : Value) (tl : List Int) (w : World) (hA : Acts w v m) (hnm : nm.length ≤ maxLen) (hfb : Byt w uv fb) (htl : Vec Go.Tum.iv w tv tl) (htr : ∀ t ∈ tl, i64 t) :
    Calls Try.prog 4 #[vN nm, uv, v, .int .i64 opn, tv] w fun e w' => e = .returned (.bool true) ∧ Ext w w' := by
  have HA := hid hA
  have HN := hid hnm
  have HTR := hid htr
  have HLW := hid htl
  obtain ⟨hrow, hokk⟩ := hA
  obtain ⟨ao, cap, rfl, hle, hm, hnn, hcell⟩ := hrow.open
  obtain ⟨fo, fc, rfl, -⟩ := hfb.open
  obtain ⟨to, tc, rfl, -⟩ := htl.open
  have HFB := hid hfb
  have HTL := hid htl
  have HTLW := hid (low_of htl)
  have HNN := hid hnn
  clear hrow hokk hcell hnn hnm htr hfb htl HLW
  go_enter Try.func4, Try.ntmps4
  go_wp2_with fail
  refine (awake_any _).mono ?_
  rintro e w1 ⟨rfl, hw⟩
  have HE1 := hid hw
  clear hw
  go_wp2_with fail
  refine (large_any _ m w1 ⟨HA.out.1.ext HE1.out, fun q hq => (HA.out.2 q hq).ext HE1.out⟩).mono ?_
  rintro e w2 ⟨⟨r, rfl, hr⟩, hE⟩
  have HE2 : Hid (Ext w w2) := hid (HE1.out.trans hE)
  clear hE HE1
  cases r
  case true =>
    clear hr
    go_wp2
    go_ret
    exact ⟨rfl, HE2.out⟩
  have HS := hid (hr rfl)
  clear hr
  by_cases hf1 : 1000 < fb.length
  · have hd : decide ((1000 : Int) < fb.length) = true := by simp; omega
    clear hf1
    go_wp2
    go_ret
    exact ⟨rfl, HE2.out⟩
  have hd : decide ((1000 : Int) < fb.length) = false := by simp; omega
  have HFL : Hid (fb.length ≤ 1000) := hid (by omega)
  clear hf1
  by_cases ht1 : 1000 < tl.length
  · have hd2 : decide ((1000 : Int) < tl.length) = true := by simp; omega
    clear ht1
    go_wp2
    go_ret
    exact ⟨rfl, HE2.out⟩
  have hd2 : decide ((1000 : Int) < tl.length) = false := by simp; omega
  clear ht1
  go_wp2_with fail
  clear hd hd2
  refine (dnew_any w2 w.heap.size HE2.out.size 131072).mono ?_
  intro e w3 hn
  obtain ⟨p, x0, rfl, D, E, -⟩ := hn.2 (by decide) (by decide)
  have HE3 := hid (HE2.out.trans E)
  have HD3 : Hid (Dk w.heap.size w3 p x0 (newP 131072)) := hid D
  clear hn D E HE2
  go_wp2_with fail
  refine (dcreate_any nm HN.out HD3.out HE3.out.size ((wf_new (room := 131072) (by decide)).cre nm).gd (by simp [newP])).mono ?_
  intro e w4 hq
  by_cases hc : (creP (newP 131072) nm).1 = 0
  case neg =>
    obtain ⟨rfl, x1, D, F, L, g⟩ := hq
    have HE4 := hid (Ext.below HE3.out L)
    obtain ⟨er, hee⟩ : ∃ er, (creP (newP 131072) nm).1 = er := ⟨_, rfl⟩
    rw [hee] at hc ⊢
    have bn : ((er : Int) != 0) = true := by simp; omega
    clear hee D F L g hc
    go_wp2
    go_ret
    exact ⟨rfl, HE4.out⟩
  have HU := hid (uw (b := fb) hc HFL.out)
  obtain ⟨rfl, x1, D, F, L, g⟩ := hq.as 0 (u1_of hc)
  have HE4 := hid (Ext.below HE3.out L)
  have HD4 := hid D
  clear hq D F L g HD3 HE3 hc
  go_wp2_with fail
  refine (dappend_any nm fb _ HN.out (HFB.out.ext HE4.out) (by have := HFL.out; omega) HD4.out HE4.out.size (by rw [u2_of HFL.out]; exact HU.out.2.1.gd)).mono ?_
  intro e w5 hq
  obtain ⟨rfl, x2, D, F, L, g⟩ := hq.as 0 (u2_of HFL.out)
  have HE5 := hid (Ext.below HE4.out L)
  have HD5 := hid D
  clear hq D F L g HD4 HE4
  go_wp2_with fail
  refine (dsync_any nm HN.out HD5.out HE5.out.size (by rw [u3_of]; exact HU.out.2.2.1.gd)).mono ?_
  intro e w6 hq
  obtain ⟨rfl, x3, D, F, L, g⟩ := hq.as 0 u3_of
  have HE6 := hid (Ext.below HE5.out L)
  have HD6 := hid D
  clear hq D F L g HD5 HE5
  go_wp2_with fail
  refine (ddsync_any HD6.out HE6.out.size (by rw [u4_of]; exact HU.out.2.2.2.gd)).mono ?_
  intro e w7 hq
  obtain ⟨rfl, x4, D, F, L, g⟩ := hq.as 0 u4_of
  have HE7 := hid (Ext.below HE6.out L)
  have HD7 := hid D
  clear hq D F L g HD6 HE6
  have HX7 := hid HD7.out.lt
  have HE8 := hid (HE7.out.trans (Ext.alloc w7 (.cells #[] 5 (0, 0))))
  have HD8 := hid (HD7.out.ext (Ext.alloc w7 (.cells #[] 5 (0, 0))))
  go_wp2_with (at_builtin; refine wpList_append_byt_at rfl (.tmp 60) (.tmp 61) 32 rfl w7.heap.size 5 Try.underlying32 infoU8 rfl (own_lit w7 w7.heap.size 5 [] #[] rfl 0 rfl (Nat.le_refl _) (by simp [maxLen])) rfl (HFB.out.ext HE8.out) fb.length (by simp) (by have := HFL.out; omega) (by simp) ?_; intro ao2 cap2 w9 hO hg hb hat; have HO9 := hid hO; have HB9 := hid hb; have HAT := hid (And.intro hg hat); clear hO hg hb hat)
  have HE79 : Hid (Ext w7 w9) := hid (Below.trans (Ext.alloc w7 _) HB9.out)
  have HE9 := hid (Ext.trans HE7.out HE79.out)
  have HBL : Hid (∀ q ∈ oB (.slice ao2 fb.length cap2), q ∉ x4.blk p) := hid fun q hq hm => by
    have h1 := oB_ge HO9.out q hq
    have h2 := HX7.out q hm
    omega
  have HD9 := hid (HD7.out.ext HE79.out)
  have HO10 : Hid (Own w9 w.heap.size 5 (.slice ao2 fb.length cap2) fb) := hid (by have := HO9.out.mono HE7.out.size; simpa using this)
  clear HE7 HD7 HE8 HD8 HX7 HAT HB9 HO9 HE79
  go_loopw [13, 65] (fun t i wr => ∃ (k : Nat) (x : DX) (s : PS) (all : List UInt8) (go : Option Addr) (gc : Nat), k ≤ m.length ∧ i = .int .i64 k ∧ t = .slice go all.length gc ∧ Hid (Own wr w.heap.size 5 (.slice go all.length gc) all) ∧ Hid (all.length ≤ 1000 + 1000 * k ∧ fb.length ≤ all.length) ∧ Hid (∀ q ∈ oB (.slice go all.length gc), q ∉ x.blk p) ∧
    Hid (s.opn.length ≤ k) ∧ Hid (WF s) ∧ Hid (SI s nm all fb.length) ∧ Hid (Dk w.heap.size wr p x s) ∧ Hid (Ext w wr)) (fun t i _ => m.length - (intOf i).toNat)
  case atStart => exact ⟨0, x4, _, fb, ao2, cap2, by omega, rfl, rfl, HO10, hid ⟨by have := HFL.out; omega, Nat.le_refl _⟩, HBL, hid (by simp), hid HU.out.2.2.2, hid (u4_si nm fb), HD9, HE9⟩
  case round =>
    clear HD9 HE9 HO10 HBL
    obtain ⟨k, x, s, all, go, gc, hk, rfl, rfl, HOW, HAL, HJ, HO, HW, HSI, HD, HE⟩ := hrel
    by_cases hlt : k < m.length
    · obtain ⟨a0, rfl⟩ := HNN.out (by omega)
      obtain ⟨dn, n, name, to1, b, ts, uo, uc, vo, vc, hok, hbl, -, c0, c1, c2, c3, c4, c5⟩ := acts_at HA.out HE.out HS.out k hlt
      have hml := HS.out.1
      have HLT := hid hlt
      have hlow := hok.low
      have HOK := hid hok
      have HSM : Hid (b.length ≤ 1000 ∧ k ≤ 40) := hid ⟨hbl, by omega⟩
      have HLOW := hid hlow
      clear hok hlow hbl hml
      have hi1 : decide ((k : Int) < m.length) = true := by simp; omega
      have HE4 := hid (HE.out.trans (Ext.alloc wr (actO (⟨dn, n, name, to1, b, ts⟩, .slice uo b.length uc, .slice vo ts.length vc))))
      have HB4 := hid (heap_alloc_new wr (actO (⟨dn, n, name, to1, b, ts⟩, .slice uo b.length uc, .slice vo ts.length vc)))
      have HD4 := hid (HD.out.ext (Ext.alloc wr (actO (⟨dn, n, name, to1, b, ts⟩, .slice uo b.length uc, .slice vo ts.length vc))))
      have HOW4 := hid (HOW.out.ext (Ext.alloc wr (actO (⟨dn, n, name, to1, b, ts⟩, .slice uo b.length uc, .slice vo ts.length vc))))
      have HXL := hid HD.out.lt
      have HOL := hid (oB_lt HOW.out)
      by_cases h8 : dn = 8
      · subst h8
        go_wp2
        go_roundw
        case rel => exact ⟨k + 1, x, s, all, go, gc, HLT.out, by go_num, rfl, HOW4, hid (by have := HAL.out; omega), HJ, hid (by have := HO.out; omega), HW, HSI, HD4, HE4⟩
        case measure =>
          have := HLT.out
          simp [intOf]; omega
      have b8 : (dn == 8) = false := by simpa using h8
      by_cases h1 : dn = 1
      · subst h1
        by_cases hn1 : name = nm
        · subst hn1
          go_wp2_with fail
          clear c0 c1 c2 c3 c4 c5 hi1
          obtain ⟨ab, hab⟩ : ∃ ab, wr.heap.size = ab := ⟨_, rfl⟩
          rw [hab] at HB4 HXL HOL ⊢
          have HAB : Hid (ab < (wr.alloc (actO (⟨1, n, name, to1, b, ts⟩, .slice uo b.length uc, .slice vo ts.length vc))).heap.size) := hid (by rw [← hab]; simp)
          clear hab
          obtain ⟨w4, hW4⟩ : ∃ w4, wr.alloc (actO (⟨1, n, name, to1, b, ts⟩, .slice uo b.length uc, .slice vo ts.length vc)) = w4 := ⟨_, rfl⟩
          refine (do_any (B := w.heap.size) (⟨1, n, name, to1, b, ts⟩, .slice uo b.length uc, .slice vo ts.length vc) (HOK.out.ext HE4.out) HD4.out HE4.out.size HW.out (by have := HO.out; have := HSM.out.2; omega) (by have := HSM.out.1; show b.length ≤ 1048576; omega) HLOW.out).mono ?_
          rintro e w7 ⟨⟨rv, rfl, ho⟩, x7, hD7, hF7, hL7, hg7⟩
          dsimp only at hD7 ho ⊢
          obtain ⟨ro, rc, hrv, -⟩ := ho.byt.open
          subst hrv
          have HE7 := hid (Ext.below HE4.out hL7)
          have HB7 := hid ((hF7.block ab HAB.out (fun hm => by have := HXL.out _ hm; omega)).trans HB4.out)
          have HD7 := hid hD7
          have HOW7 := hid (ownsRow_fr HOW4.out hF7 (fun q hq hm => HJ.out q hq hm))
          have HAB7 := hid (Nat.lt_of_lt_of_le HAB.out hF7.size)
          have HJ7 : Hid (∀ q ∈ oB (.slice go all.length gc), q ∉ x7.blk p) := hid fun q hq hm => by
            rcases hg7 q hm with h | h
            · exact HJ.out q hq h
            · have h5 := HOL.out q hq
              have h6 := HAB.out
              omega
          have HW7 := hid (HW.out.act ⟨1, n, name, to1, b, ts⟩ HOK.out.n)
          have HO7 : Hid ((actS s ⟨1, n, name, to1, b, ts⟩).2.opn.length ≤ k + 1) := hid (by have := HO.out; have := act_opn s ⟨1, n, name, to1, b, ts⟩; omega)
          have hSI := act_si HSI.out HW.out ⟨1, n, name, to1, b, ts⟩ (by show (1 : Int) ≠ 8; decide) (fun h => absurd rfl h)
          clear ho hD7 hF7 hL7 hg7 HE4 HB4 HD4 HOW4 HAB HXL hW4
          by_cases her : (actS s ⟨1, n, name, to1, b, ts⟩).1 = 0
          case neg =>
            have hsu : sureA name all s ⟨1, n, name, to1, b, ts⟩ = all := by unfold sureA; exact if_neg (fun q => her q.2.2)
            rw [hsu] at hSI
            obtain ⟨R, hR⟩ : ∃ R, actS s ⟨1, n, name, to1, b, ts⟩ = R := ⟨_, rfl⟩
            rw [hR] at HD7 HW7 HO7 hSI her ⊢
            clear hR hsu
            obtain ⟨er, s7⟩ := R
            dsimp only at HD7 HW7 HO7 hSI her ⊢
            have HSI7 := hid hSI
            have be : ((er : Int) == 0) = false := by simp; omega
            clear hSI her
            obtain ⟨⟨e0, e1, e2, e3, e4, e5⟩, -⟩ := lk6 HB7.out
            go_wp2
            go_roundw
            case rel => exact ⟨k + 1, x7, s7, all, go, gc, HLT.out, by go_num, rfl, HOW7, hid (by have := HAL.out; omega), HJ7, HO7, HW7, HSI7, HD7, HE7⟩
            case measure =>
              have := HLT.out
              simp [intOf]; omega
          have hsu : sureA name all s ⟨1, n, name, to1, b, ts⟩ = all ++ b := by unfold sureA; exact if_pos ⟨rfl, rfl, her⟩
          rw [hsu] at hSI
          obtain ⟨R, hR⟩ : ∃ R, actS s ⟨1, n, name, to1, b, ts⟩ = R := ⟨_, rfl⟩
          rw [hR] at HD7 HW7 HO7 hSI her ⊢
          clear hR hsu
          obtain ⟨er, s7⟩ := R
          dsimp only at HD7 HW7 HO7 hSI her ⊢
          subst her
          have HSI7 := hid hSI
          have HX7 := hid HD7.out.lt
          clear hSI
          obtain ⟨⟨e0, e1, e2, e3, e4, e5⟩, -⟩ := lk6 HB7.out
          have HBY := hid (HOK.out.b.ext HE7.out)
          go_wp2_with (at_builtin; refine wpList_append_byt_at rfl (.tmp 108) (.tmp 110) 32 rfl w.heap.size 5 Try.underlying32 infoU8 rfl HOW7.out rfl HBY.out (all ++ b).length (by simp) (by have := HAL.out; have := HSM.out; simp; omega) HE7.out.size ?_; intro ao2 cap2 w9 hO hg hb hat; have HO9 := hid hO; have HB9 := hid hb; have HAT := hid (And.intro hg hat); clear hO hg hb hat)
          have HD9 := hid (HD7.out.fr (fr_grown HAT.out.1 HB9.out) (fun q hq hm => HJ7.out q hm hq))
          have HJ9 : Hid (∀ q ∈ oB (.slice ao2 (all ++ b).length cap2), q ∉ x7.blk p) := hid fun q hq hm => by
            rw [oB_iff] at hq
            rcases HAT.out.2 with h | h
            · rw [h] at hq
              exact HJ7.out q (oB_iff.2 hq) hm
            · rw [h] at hq
              cases hq
              exact Nat.lt_irrefl _ (HX7.out _ hm)
          have HE9 := hid (Ext.below HE7.out HB9.out)
          go_roundw
          case rel => exact ⟨k + 1, x7, s7, all ++ b, ao2, cap2, HLT.out, by go_num, by rw [List.length_append], HO9, hid (by have := HAL.out; have := HSM.out; simp; omega), HJ9, HO7, HW7, HSI7, HD9, HE9⟩
          case measure =>
            have := HLT.out
            simp [intOf]; omega
        · have bnm : (name == nm) = false := by simpa using hn1
          by_cases ht1 : to1 = nm
          · have btm : (to1 == nm) = true := by simpa using ht1
            clear ht1
            go_wp2_with fail
            clear c0 c1 c2 c3 c4 c5 hi1
            obtain ⟨ab, hab⟩ : ∃ ab, wr.heap.size = ab := ⟨_, rfl⟩
            rw [hab] at HB4 HXL HOL ⊢
            have HAB : Hid (ab < (wr.alloc (actO (⟨1, n, name, to1, b, ts⟩, .slice uo b.length uc, .slice vo ts.length vc))).heap.size) := hid (by rw [← hab]; simp)
            clear hab
            obtain ⟨w4, hW4⟩ : ∃ w4, wr.alloc (actO (⟨1, n, name, to1, b, ts⟩, .slice uo b.length uc, .slice vo ts.length vc)) = w4 := ⟨_, rfl⟩
            refine (do_any (B := w.heap.size) (⟨1, n, name, to1, b, ts⟩, .slice uo b.length uc, .slice vo ts.length vc) (HOK.out.ext HE4.out) HD4.out HE4.out.size HW.out (by have := HO.out; have := HSM.out.2; omega) (by have := HSM.out.1; show b.length ≤ 1048576; omega) HLOW.out).mono ?_
            rintro e w7 ⟨⟨rv, rfl, ho⟩, x7, hD7, hF7, hL7, hg7⟩
            dsimp only at hD7 ho ⊢
            obtain ⟨ro, rc, hrv, -⟩ := ho.byt.open
            subst hrv
            have HE7 := hid (Ext.below HE4.out hL7)
            have HB7 := hid ((hF7.block ab HAB.out (fun hm => by have := HXL.out _ hm; omega)).trans HB4.out)
            have HD7 := hid hD7
            have HOW7 := hid (ownsRow_fr HOW4.out hF7 (fun q hq hm => HJ.out q hq hm))
            have HAB7 := hid (Nat.lt_of_lt_of_le HAB.out hF7.size)
            have HJ7 : Hid (∀ q ∈ oB (.slice go all.length gc), q ∉ x7.blk p) := hid fun q hq hm => by
              rcases hg7 q hm with h | h
              · exact HJ.out q hq h
              · have h5 := HOL.out q hq
                have h6 := HAB.out
                omega
            have HW7 := hid (HW.out.act ⟨1, n, name, to1, b, ts⟩ HOK.out.n)
            have HO7 : Hid ((actS s ⟨1, n, name, to1, b, ts⟩).2.opn.length ≤ k + 1) := hid (by have := HO.out; have := act_opn s ⟨1, n, name, to1, b, ts⟩; omega)
            have hSI := act_si HSI.out HW.out ⟨1, n, name, to1, b, ts⟩ (by show (1 : Int) ≠ 8; decide) (fun h => absurd rfl h)
            clear ho hD7 hF7 hL7 hg7 HE4 HB4 HD4 HOW4 HAB HXL hW4
            obtain ⟨R, hR⟩ : ∃ R, actS s ⟨1, n, name, to1, b, ts⟩ = R := ⟨_, rfl⟩
            have hsu : sureA nm all s ⟨1, n, name, to1, b, ts⟩ = all := by unfold sureA; exact if_neg (fun q => hn1 q.2.1)
            rw [hsu] at hSI
            rw [hR] at HD7 HW7 HO7 hSI ⊢
            clear hR hsu
            obtain ⟨er, s7⟩ := R
            dsimp only at HD7 HW7 HO7 hSI ⊢
            have HSI7 := hid hSI
            clear hSI
            obtain ⟨⟨e0, e1, e2, e3, e4, e5⟩, -⟩ := lk6 HB7.out
            go_wp2
            go_roundw
            case rel => exact ⟨k + 1, x7, s7, all, go, gc, HLT.out, by go_num, rfl, HOW7, hid (by have := HAL.out; omega), HJ7, HO7, HW7, HSI7, HD7, HE7⟩
            case measure =>
              have := HLT.out
              simp [intOf]; omega
          · have btm : (to1 == nm) = false := by simpa using ht1
            go_wp2_with fail
            clear c0 c1 c2 c3 c4 c5 hi1
            obtain ⟨ab, hab⟩ : ∃ ab, wr.heap.size = ab := ⟨_, rfl⟩
            rw [hab] at HB4 HXL HOL ⊢
            have HAB : Hid (ab < (wr.alloc (actO (⟨1, n, name, to1, b, ts⟩, .slice uo b.length uc, .slice vo ts.length vc))).heap.size) := hid (by rw [← hab]; simp)
            clear hab
            obtain ⟨w4, hW4⟩ : ∃ w4, wr.alloc (actO (⟨1, n, name, to1, b, ts⟩, .slice uo b.length uc, .slice vo ts.length vc)) = w4 := ⟨_, rfl⟩
            refine (do_any (B := w.heap.size) (⟨1, n, name, to1, b, ts⟩, .slice uo b.length uc, .slice vo ts.length vc) (HOK.out.ext HE4.out) HD4.out HE4.out.size HW.out (by have := HO.out; have := HSM.out.2; omega) (by have := HSM.out.1; show b.length ≤ 1048576; omega) HLOW.out).mono ?_
            rintro e w7 ⟨⟨rv, rfl, ho⟩, x7, hD7, hF7, hL7, hg7⟩
            dsimp only at hD7 ho ⊢
            obtain ⟨ro, rc, hrv, -⟩ := ho.byt.open
            subst hrv
            have HE7 := hid (Ext.below HE4.out hL7)
            have HB7 := hid ((hF7.block ab HAB.out (fun hm => by have := HXL.out _ hm; omega)).trans HB4.out)
            have HD7 := hid hD7
            have HOW7 := hid (ownsRow_fr HOW4.out hF7 (fun q hq hm => HJ.out q hq hm))
            have HAB7 := hid (Nat.lt_of_lt_of_le HAB.out hF7.size)
            have HJ7 : Hid (∀ q ∈ oB (.slice go all.length gc), q ∉ x7.blk p) := hid fun q hq hm => by
              rcases hg7 q hm with h | h
              · exact HJ.out q hq h
              · have h5 := HOL.out q hq
                have h6 := HAB.out
                omega
            have HW7 := hid (HW.out.act ⟨1, n, name, to1, b, ts⟩ HOK.out.n)
            have HO7 : Hid ((actS s ⟨1, n, name, to1, b, ts⟩).2.opn.length ≤ k + 1) := hid (by have := HO.out; have := act_opn s ⟨1, n, name, to1, b, ts⟩; omega)
            have hSI := act_si HSI.out HW.out ⟨1, n, name, to1, b, ts⟩ (by show (1 : Int) ≠ 8; decide) (fun h => absurd rfl h)
            clear ho hD7 hF7 hL7 hg7 HE4 HB4 HD4 HOW4 HAB HXL hW4
            obtain ⟨R, hR⟩ : ∃ R, actS s ⟨1, n, name, to1, b, ts⟩ = R := ⟨_, rfl⟩
            have hsu : sureA nm all s ⟨1, n, name, to1, b, ts⟩ = all := by unfold sureA; exact if_neg (fun q => hn1 q.2.1)
            rw [hsu] at hSI
            rw [hR] at HD7 HW7 HO7 hSI ⊢
            clear hR hsu
            obtain ⟨er, s7⟩ := R
            dsimp only at HD7 HW7 HO7 hSI ⊢
            have HSI7 := hid hSI
            clear hSI
            obtain ⟨⟨e0, e1, e2, e3, e4, e5⟩, -⟩ := lk6 HB7.out
            go_wp2
            go_roundw
            case rel => exact ⟨k + 1, x7, s7, all, go, gc, HLT.out, by go_num, rfl, HOW7, hid (by have := HAL.out; omega), HJ7, HO7, HW7, HSI7, HD7, HE7⟩
            case measure =>
              have := HLT.out
              simp [intOf]; omega
      · have b1 : (dn != 1) = true := by simpa using h1
        have b1' : (dn == 1) = false := by simpa using h1
        by_cases hn1 : name = nm
        · have bnm : (name == nm) = true := by simpa using hn1
          clear hn1
          go_wp2
          go_roundw
          case rel => exact ⟨k + 1, x, s, all, go, gc, HLT.out, by go_num, rfl, HOW4, hid (by have := HAL.out; omega), HJ, hid (by have := HO.out; omega), HW, HSI, HD4, HE4⟩
          case measure =>
            have := HLT.out
            simp [intOf]; omega
        have bnm : (name == nm) = false := by simpa using hn1
        by_cases ht1 : to1 = nm
        · have btm : (to1 == nm) = true := by simpa using ht1
          clear ht1
          go_wp2
          go_roundw
          case rel => exact ⟨k + 1, x, s, all, go, gc, HLT.out, by go_num, rfl, HOW4, hid (by have := HAL.out; omega), HJ, hid (by have := HO.out; omega), HW, HSI, HD4, HE4⟩
          case measure =>
            have := HLT.out
            simp [intOf]; omega
        have btm : (to1 == nm) = false := by simpa using ht1
        go_wp2_with fail
        clear c0 c1 c2 c3 c4 c5 hi1
        obtain ⟨ab, hab⟩ : ∃ ab, wr.heap.size = ab := ⟨_, rfl⟩
        rw [hab] at HB4 HXL HOL ⊢
        have HAB : Hid (ab < (wr.alloc (actO (⟨dn, n, name, to1, b, ts⟩, .slice uo b.length uc, .slice vo ts.length vc))).heap.size) := hid (by rw [← hab]; simp)
        clear hab
        obtain ⟨w4, hW4⟩ : ∃ w4, wr.alloc (actO (⟨dn, n, name, to1, b, ts⟩, .slice uo b.length uc, .slice vo ts.length vc)) = w4 := ⟨_, rfl⟩
        refine (do_any (B := w.heap.size) (⟨dn, n, name, to1, b, ts⟩, .slice uo b.length uc, .slice vo ts.length vc) (HOK.out.ext HE4.out) HD4.out HE4.out.size HW.out (by have := HO.out; have := HSM.out.2; omega) (by have := HSM.out.1; show b.length ≤ 1048576; omega) HLOW.out).mono ?_
        rintro e w7 ⟨⟨rv, rfl, ho⟩, x7, hD7, hF7, hL7, hg7⟩
        dsimp only at hD7 ho ⊢
        obtain ⟨ro, rc, hrv, -⟩ := ho.byt.open
        subst hrv
        have HE7 := hid (Ext.below HE4.out hL7)
        have HB7 := hid ((hF7.block ab HAB.out (fun hm => by have := HXL.out _ hm; omega)).trans HB4.out)
        have HD7 := hid hD7
        have HOW7 := hid (ownsRow_fr HOW4.out hF7 (fun q hq hm => HJ.out q hq hm))
        have HAB7 := hid (Nat.lt_of_lt_of_le HAB.out hF7.size)
        have HJ7 : Hid (∀ q ∈ oB (.slice go all.length gc), q ∉ x7.blk p) := hid fun q hq hm => by
          rcases hg7 q hm with h | h
          · exact HJ.out q hq h
          · have h5 := HOL.out q hq
            have h6 := HAB.out
            omega
        have HW7 := hid (HW.out.act ⟨dn, n, name, to1, b, ts⟩ HOK.out.n)
        have HO7 : Hid ((actS s ⟨dn, n, name, to1, b, ts⟩).2.opn.length ≤ k + 1) := hid (by have := HO.out; have := act_opn s ⟨dn, n, name, to1, b, ts⟩; omega)
        have hSI := act_si HSI.out HW.out ⟨dn, n, name, to1, b, ts⟩ h8 (fun _ => ⟨hn1, ht1⟩)
        clear ho hD7 hF7 hL7 hg7 HE4 HB4 HD4 HOW4 HAB HXL hW4
        obtain ⟨R, hR⟩ : ∃ R, actS s ⟨dn, n, name, to1, b, ts⟩ = R := ⟨_, rfl⟩
        have hsu : sureA nm all s ⟨dn, n, name, to1, b, ts⟩ = all := by unfold sureA; exact if_neg (fun q => h1 q.1)
        rw [hsu] at hSI
        rw [hR] at HD7 HW7 HO7 hSI ⊢
        clear hR hsu
        obtain ⟨er, s7⟩ := R
        dsimp only at HD7 HW7 HO7 hSI ⊢
        have HSI7 := hid hSI
        clear hSI
        obtain ⟨⟨e0, e1, e2, e3, e4, e5⟩, -⟩ := lk6 HB7.out
        go_wp2
        go_roundw
        case rel => exact ⟨k + 1, x7, s7, all, go, gc, HLT.out, by go_num, rfl, HOW7, hid (by have := HAL.out; omega), HJ7, HO7, HW7, HSI7, HD7, HE7⟩
        case measure =>
          have := HLT.out
          simp [intOf]; omega
    · obtain rfl : k = m.length := by omega
      go_wp2_with fail
      refine (dcrash_any opn tl to tc HD.out HE.out.size (HTL.out.ext HE.out) (fun a ha hne hm => by have := HTLW.out a ha hne; have := HD.out.low _ hm; omega) HTR.out (HW.out.cra opn tl).gd).mono ?_
      rintro e w5 ⟨⟨u, rfl⟩, x5, hD, hF, hL, hg⟩
      have HD5 := hid hD
      have HE5 := hid (Ext.below HE.out hL)
      have HOW5 := hid (Own.byt (ownsRow_fr HOW.out hF (fun q hq hm => HJ.out q hq hm)))
      clear hD hF hL hg HD HE HOW HJ
      obtain ⟨q1, j, q2, q3, q4⟩ := sure_crash HSI.out HW.out HAL.out.2 opn tl
      have HQ1 := hid q1
      have HQ4 := hid q4
      have HQ2 := hid q2
      have HQ3 := hid q3
      clear q1 q2 q3 q4
      go_wp2_with fail
      refine (dread_any nm HN.out HD5.out).mono ?_
      rintro e w6 ⟨⟨v6, rfl, ho⟩, hE⟩
      rw [HQ4.out] at ho
      rw [HQ1.out]
      obtain ⟨LB, hLB⟩ : ∃ LB, all.take j = LB := ⟨_, rfl⟩
      have hlen : LB.length = j := by rw [← hLB, List.length_take]; have := HQ3.out; omega
      have HLB := hid hLB
      rw [hLB] at ho
      obtain ⟨o6, c6, rfl, -⟩ := ho.byt.open
      have HV6 := hid ho.byt
      have HV6a := hid (HOW5.out.ext hE)
      have HE6 := hid (HE5.out.trans hE)
      have d1 : decide (fb.length ≤ LB.length) = true := by have := HQ2.out; simp; omega
      have d2 : decide (LB.length ≤ all.length) = true := by have := HQ3.out; simp; omega
      have hle7 : LB.length ≤ all.length := by have := HQ3.out; omega
      have HTK := hid (Vec.take (f := bv) HV6a.out LB.length hle7)
      have HLE := hid (And.intro hle7 hlen)
      clear ho hE hLB HE5 HD5 HOW5 hlen
      obtain ⟨-, hgc, -⟩ := Vec.opens HV6a.out
      go_wp2_with fail
      have htk : all.take LB.length = LB := by rw [HLE.out.2]; exact HLB.out
      have HTK2 := HTK.out
      rw [htk] at HTK2
      refine (rsame_any _ _ LB LB _ HV6.out HTK2).mono ?_
      rintro e w7 ⟨rfl, hE⟩
      have hself : (LB == LB) = true := by simp
      rw [hself]
      have HE7 := hid (HE6.out.trans hE)
      clear hE
      go_wp2
      go_ret
      exact ⟨rfl, HE7.out⟩
end Go.Proofs.Ytkaafllbmeppnaa
