/- The dead: which, All. -/
import Derived.Test.YtfpljeblehieiaaDoorDedD
set_option linter.unusedSimpArgs false
set_option linter.unusedVariables false
namespace Go.Proofs.YtfpljeblehieiaaDoor
open Go Go.RowKit Go.Tum Go.ChangeMaps Go.Sort
open Go.ParB (upd Lof)
open Go.ParE (putS slotsR slots Closed)

theorem infoRow : (Tryd.prog.info? 48).map (fun i => (i.zero, i.size, i.bytes)) = some (some (.agg #[.int .u64 0, .int .u64 0]), 2, 16) := by kernel_rfl
theorem oB_own {v : Value} {g : Nat} (h : v.ownBlock = some g) : oB v = [g] := by unfold oB; rw [h]
theorem fr_grown {w w' : World} {b : Nat} {v : Value} (k : w.grownBy w' v.ownBlock) (e : Below b w w') : Fr (oB v) w w' :=
  ⟨e.os, e.tape, e.output, e.size, fun j hj hn => k.block j hj fun h => hn (by rw [oB_own h.symm]; simp)⟩
theorem ownsRow_fr {w w' : World} {b e n s : Nat} {v : Value} {xs : List Value} {S : List Nat} (h : w.ownsRow b e s v n xs) (f : Fr S w w') (hs : ∀ q ∈ oB v, q ∉ S) : w'.ownsRow b e s v n xs := by
  refine ⟨h.1, ?_⟩
  rcases h.2 with hn | ⟨g, cap, cur, hv, hb, hgg, rest⟩
  · exact .inl hn
  · refine .inr ⟨g, cap, cur, hv, hb, ?_, rest⟩
    rw [f.block g (Array.getElem?_eq_some_iff.1 hgg).1 (hs g (by rw [hv]; simp [oB, Value.ownBlock]))]; exact hgg
theorem row_kind {w : World} {b e sz n : Nat} {v : Value} {xs : List Value} (h : w.ownsRow b e sz v n xs) : ∀ q ∈ oB v, ∃ cs, w.heap[q]? = some (.cells cs e (0, 0)) := by
  intro q hq
  rcases h.2 with ⟨hv, -⟩ | ⟨g, cap, cur, hv, hb, hgg, rest⟩
  · rw [hv] at hq; simp [oB, Value.ownBlock] at hq
  · rw [hv] at hq
    simp [oB, Value.ownBlock] at hq
    subst hq
    exact ⟨_, hgg⟩
theorem row_lo {w : World} {b e s2 n : Nat} {v : Value} {xs : List Value} (h : w.ownsRow b e s2 v n xs) : ∀ q ∈ oB v, b ≤ q := by
  intro q hm
  rcases h.2 with ⟨hv, -⟩ | ⟨g, cap, cur, hv, hb, hgg, rest⟩
  · rw [hv] at hm; simp [oB, Value.ownBlock] at hm
  · rw [hv] at hm
    simp [oB, Value.ownBlock] at hm
    subst hm; exact hb
theorem encR_one (l : List (UInt64 × UInt64)) : ∀ y ∈ l.flatMap encR, y.oneCell' = true := by
  intro y hy
  obtain ⟨z, -, h⟩ := List.mem_flatMap.1 hy
  simp at h
  rcases h with rfl | rfl <;> rfl
theorem row_one (w : World) (e : Nat) (z : UInt64 × UInt64) : Sl (w.alloc (.cells #[vU z.1, vU z.2] e (0, 0))) 2 (.slice (some ⟨w.heap.size, 0, none⟩) 1 1) 1 (encR z) := by
  have hblk := heap_alloc_new w (.cells #[vU z.1, vU z.2] e (0, 0))
  refine ⟨rfl, some ⟨w.heap.size, 0, none⟩, 1, rfl, Nat.le_refl _, by simp [maxLen], (fun h => by cases h), fun a ha j u hu => ?_⟩
  cases ha
  have e1 : (⟨w.heap.size, 0, none⟩ : Addr).add j = ⟨w.heap.size, j, none⟩ := by unfold Addr.add; split <;> simp_all
  rw [e1, cell_of_row _ _ _ _ _ _ hblk]
  simpa using hu
theorem wpList_append_slN {P : Program} {ops : Array Oper} {rest : List Oper} {o : Oper} {a : Act} {w : World} {Q : Exit → Act → World → Prop} (hgd : o.guard = none) (s x : Operand) (t : Nat)
    (ho : o.op = .call { callee := .builtin .append, args := #[s, x], argTypes := #[t, t] }) (base e : Nat) {z : Value} {size bytes : Nat} (ht : P.underlying t = some (.slice e))
    (hi : (P.info? e).map (fun i => (i.zero, i.size, i.bytes)) = some (some z, size, bytes)) (hzs : z.cells.size = size) (hsz : 0 < size)
    {v : Value} {n : Nat} {xs : List Value} (hs : a.eval s = v) (hown : w.ownsRow base e size v n xs) {u : Value} {m : Nat} {ys : List Value} (hx : a.eval x = u) (hsl : Sl w size u m ys)
    (h1 : ∀ y ∈ ys, y.oneCell' = true) (N : Nat) (hN : N = n + m) (hb : N ≤ maxLen) (hbytes : N * bytes ≤ 140737488355328) (hbase : base ≤ w.heap.size)
    (h : ∀ ao cap w', w'.ownsRow base e size (.slice ao N cap) N (xs ++ ys) → Fr (oB v) w w' → Below base w w' → wpList P ops Q rest (a.put o.dst (.slice ao N cap)) w') :
    wpList P ops Q (o :: rest) a w := by
  subst hN
  exact wpList_append_sl hgd s x t ho base e ht hi hzs hsz hs hown hx hsl h1 hb hbytes hbase fun ao cap w' k1 k2 k3 => h ao cap w' k1 (fr_grown k2 k3) k3
theorem enter_of {P : Program} {K : Nat} {fn : Func} (hK : P.funcs[K]? = some fn) (hK1 : (fn.name == "runtime.NumGoroutine") = false) (hK2 : fn.body.isNone = false) (args : Array Value) (w : World) :
    Sem.run P (callFunc K args) w = .ok (.enter K args) w := by
  have h1 : ¬ fn.name = "runtime.NumGoroutine" := by simpa using hK1
  have h2 : ¬ fn.body = none := fun h => by rw [h] at hK2; simp at hK2
  simp [callFunc, hK, h1, h2]
/-- What the rows of a list that are right are. -/
def WhiP (w : World) (l : List (UInt64 × UInt64)) (e : Ending) (w' : World) : Prop := (∃ v, e = .returned v ∧ w'.ownsRow w.heap.size 48 2 v l.length (l.flatMap encR)) ∧ Ext w w'
set_option maxRecDepth 100000 in
set_option maxHeartbeats 2000000 in
theorem dwhich_any {w : World} {p mp ms : Nat} {s : PD} (pr : UInt64 × UInt64 → Bool) (g : Nat) (cb : Array Value) (h : DD w p mp ms s)
    (eg : ∀ args w, Sem.run Tryd.prog (callFunc g args) w = .ok (.enter g args) w) (hr : ∀ w2, Ext w w2 → ∀ z, Calls Tryd.prog g (#[.agg #[vU z.1, vU z.2]] ++ cb) w2 fun e w3 => e = .returned (.bool (pr z)) ∧ Ext w2 w3) :
    Calls Tryd.prog 34 #[pv p, .func (.func g) #[] cb] w fun e w' => WhiP w (sortP (s.rows.filter pr)) e w' := by
  obtain ⟨-, c1, -, -⟩ := lk3 h.hd
  obtain ⟨l, hl, pl⟩ := h.rm
  have HM := hid hl
  have HPL := hid pl
  have HND := hid (perm_nodup pl h.nr)
  have HR := hid hr
  have HLR := hid h.lr
  clear h hl pl hr
  go_enter Tryd.func34, Tryd.ntmps34
  go_wp2_with (at_range; refine wpList_range_PMU _ Tryd.underlying65 rfl _ rfl mp l rfl HM.out HND.out ?_; intro w0 hrg0 hE0; have HRG := hid hrg0; have HE0 := hid hE0; clear hrg0 hE0)
  obtain ⟨r, hr⟩ : ∃ r, w.heap.size = r := ⟨_, rfl⟩
  rw [hr] at HRG ⊢
  have HRr := hid hr
  clear hr
  go_frame
  go_loopw [5] (fun v wr => ∃ (rem : List (UInt64 × UInt64)) (cnt : Nat) (ss : List (UInt64 × UInt64)) (ao : Option Addr) (n cap : Nat), v = .slice ao n cap ∧ Hid (n = ss.length) ∧ Hid (wr.ownsRow w.heap.size 48 2 (.slice ao n cap) n (ss.flatMap encR)) ∧ Hid (RNGU wr mp r l rem cnt) ∧ Hid ((ss ++ rem.filter pr).Perm (l.filter pr)) ∧ Hid (Ext w wr)) (fun _ wr => wr.rangeLeft mp r)
  case atStart => exact ⟨l, _, [], none, 0, 0, rfl, hid rfl, hid (World.ownsRow_nil _ _ _ _), HRG, hid (List.Perm.refl _), HE0⟩
  case round =>
    obtain ⟨rem, cnt, ss, ao, n, cap, rfl, HN, HO, HRG, HP, HE⟩ := hrel
    have HSL : Hid (ss.length + (rem.filter pr).length ≤ 100000) := hid (by have h1 := HP.out.length_eq; rw [List.length_append] at h1; have h2 := List.length_filter_le pr l; have h3 := HPL.out.length_eq; have := HLR.out; omega)
    go_wp2_with (first
      | (at_next; refine wpList_next_RNGU _ rfl _ rfl mp r cnt l rem rfl HRG.out ?_ ?_))
    · intro h0
      subst h0
      have hperm : ss.Perm (l.filter pr) := by have := HP.out; simpa using this
      have HSS : Hid (sortP ss = sortP (s.rows.filter pr)) := hid (by
        have h1 : ss.Perm (s.rows.filter pr) := hperm.trans (HPL.out.filter _)
        refine List.Perm.eq_of_pairwise (le := fun x y => ltP y x = false) (fun a b _ _ h1 h2 => totP a b (by rw [lt_cfP]; exact h2) (by rw [lt_cfP]; exact h1)) (sortP_pair _) (sortP_pair _) (((sortP_perm ss).trans h1).trans (sortP_perm _).symm))
      have HC := hid (sortR_any (w := wr) ss (by rw [← HN.out]; exact HO.out) (by have := HSL.out; omega))
      clear hperm
      go_wp2_with fail
      refine HC.out.mono ?_
      rintro e w9 ⟨rfl, ho, hf⟩
      have HO9 : Hid (w9.ownsRow w.heap.size 48 2 (.slice ao n cap) (sortP (s.rows.filter pr)).length ((sortP (s.rows.filter pr)).flatMap encR)) := hid (by rw [← HSS.out, sortP_len]; exact ho)
      have HE9 : Hid (Ext w w9) := hid (Below.trans HE.out (hf.below (row_lo HO.out) HE.out.size))
      clear ho hf
      go_wp2
      go_ret
      exact ⟨⟨_, rfl, HO9.out⟩, HE9.out⟩
    · intro x b w' cnt' k1 k2 k4 k5 k6 k7
      have hrit : ∀ q ∈ oB (.slice ao n cap), q ∉ [r] := fun q hq hq2 => by
        obtain rfl : q = r := by simpa using hq2
        obtain ⟨cs, hc⟩ := row_kind HO.out q hq
        obtain ⟨o, ho, hn⟩ := HRG.out.blocks.2
        rw [ho] at hc; cases hc; exact hn _ _ rfl
      have HO2 := hid (ownsRow_fr HO.out k6 hrit)
      have HE2 : Hid (Ext w w') := hid (Below.trans HE.out (k6.below (by simp; have := HRr.out; omega) HE.out.size))
      have HRG2 := hid k4
      have HK5 := hid (show w'.rangeLeft mp r < wr.rangeLeft mp r by rw [k4.left, HRG.out.left]; exact k5)
      have hpn := (noK_perm k1 HRG.out.nd).filter pr
      have HPN := hid hpn
      have HB := hid (heap_alloc_new w' (.cells #[vU x, vU b] 48 (0, 0)))
      have HE3 := hid (HE2.out.trans (Ext.alloc w' (.cells #[vU x, vU b] 48 (0, 0))))
      have HO3 := hid ((Ext.alloc w' (.cells #[vU x, vU b] 48 (0, 0))).owns HO2.out)
      have HRG3 := hid (HRG2.out.ext (Ext.alloc w' (.cells #[vU x, vU b] 48 (0, 0))))
      clear k1 k2 k4 k5 k6 hrit hpn
      go_wp2_with fail
      refine (HR.out _ HE3.out (x, b)).mono ?_
      rintro e w5 ⟨rfl, hE5⟩
      have HE5 := hid (HE3.out.trans hE5)
      have HB5 := hid (hE5.obj HB.out)
      have HO5 := hid (hE5.owns HO3.out)
      have HRG5 := hid (HRG3.out.ext hE5)
      have HK6 : Hid (cnt' < wr.rangeLeft mp r) := hid (by have := HK5.out; rw [HRG2.out.left] at this; exact this)
      clear hE5 HE3 HB HO3 HRG3 HO2 HE2 HRG2 HK5
      obtain ⟨ab, hab⟩ : ∃ b, w'.heap.size = b := ⟨_, rfl⟩
      rw [hab] at HB5 ⊢
      clear hab k7
      obtain ⟨pb, hpb⟩ : ∃ y, pr (x, b) = y := ⟨_, rfl⟩
      have HPB := hid hpb
      rw [hpb]
      clear hpb
      cases pb
      case false =>
        have HP2 : Hid ((ss ++ (noK rem x).filter pr).Perm (l.filter pr)) := hid (by
          have h1 := HPN.out
          rw [List.filter_cons, if_neg (by rw [HPB.out]; decide)] at h1
          exact (List.Perm.append_left ss h1).trans HP.out)
        go_wp2
        go_roundw
        case rel => exact ⟨noK rem x, cnt', ss, ao, n, cap, rfl, HN, HO5, HRG5, HP2, HE5⟩
        case measure => rw [HRG5.out.left]; exact HK6.out
      case true =>
        have HP2 : Hid (((ss ++ [(x, b)]) ++ (noK rem x).filter pr).Perm (l.filter pr)) := hid (by
          have h1 := HPN.out
          rw [List.filter_cons, if_pos HPB.out] at h1
          have h2 := (List.Perm.append_left ss h1).trans HP.out
          simpa using h2)
        obtain ⟨q0, q1, -⟩ := lk2 HB5.out
        have hnb : n ≤ 100000 := by have := HSL.out; rw [HN.out]; omega
        have HSL1 := hid (row_one w5 48 (x, b))
        go_wp2_with (at_builtin; refine wpList_append_slN rfl (.tmp 25) (.tmp 27) 45 rfl w.heap.size 48 Tryd.underlying45 infoRow rfl (by decide) rfl ((Ext.alloc w5 _).owns HO5.out) rfl HSL1.out (by intro y hy; simp at hy; rcases hy with rfl | rfl <;> rfl) (n + 1) (by omega) (by simp [maxLen]; omega) (by omega) (Nat.le_trans HE5.out.size (by simp)) ?_; intro ao3 cap3 w3 hO3 hg3 hb3; have HO3 := hid hO3; have HE3 : Hid (Ext w w3) := hid (Below.trans (HE5.out.trans (Ext.alloc _ _)) hb3); have HF3 := hid hg3; clear hO3 hg3 hb3)
        have HRG6 : Hid (RNGU w3 mp r l (noK rem x) cnt') := hid (by
          have h1 := HRG5.out.ext (Ext.alloc w5 (.cells #[vU x, vU b] 48 (0, 0)))
          refine h1.kept HF3.out ?_ ?_
          · intro hq
            obtain ⟨cs, hc⟩ := row_kind ((Ext.alloc w5 (.cells #[vU x, vU b] 48 (0, 0))).owns HO5.out) _ hq
            obtain ⟨o, ho, hn⟩ := h1.blocks.1
            rw [ho] at hc; cases hc; exact hn _ _ rfl
          · intro hq
            obtain ⟨cs, hc⟩ := row_kind ((Ext.alloc w5 (.cells #[vU x, vU b] 48 (0, 0))).owns HO5.out) _ hq
            obtain ⟨o, ho, hn⟩ := h1.blocks.2
            rw [ho] at hc; cases hc; exact hn _ _ rfl)
        go_roundw
        case rel => exact ⟨noK rem x, cnt', ss ++ [(x, b)], ao3, n + 1, cap3, rfl, hid (by rw [List.length_append, HN.out]; rfl), hid (by rw [List.flatMap_append]; simpa using HO3.out), HRG6, HP2, HE3⟩
        case measure => rw [HRG6.out.left]; exact HK6.out
theorem enAll (args : Array Value) (w : World) : Sem.run Tryd.prog (callFunc 35 args) w = .ok (.enter 35 args) w := enter_of Tryd.func35 (by kernel_rfl) (by kernel_rfl) args w
theorem enNext (args : Array Value) (w : World) : Sem.run Tryd.prog (callFunc 40 args) w = .ok (.enter 40 args) w := enter_of Tryd.func40 (by kernel_rfl) (by kernel_rfl) args w
theorem all1_any (z : UInt64 × UInt64) (w : World) : Calls Tryd.prog 35 (#[.agg #[vU z.1, vU z.2]] ++ #[]) w fun e w' => e = .returned (.bool true) ∧ Ext w w' := by
  show Calls Tryd.prog 35 #[.agg #[vU z.1, vU z.2]] w fun e w' => e = .returned (.bool true) ∧ Ext w w'
  go_enter Tryd.func35, Tryd.ntmps35
  go_wp2
  go_ret
  exact ⟨rfl, Ext.alloc _ _⟩
theorem dall_any {w : World} {p mp ms : Nat} {s : PD} (h : DD w p mp ms s) :
    Calls Tryd.prog 21 #[pv p] w fun e w' => WhiP w (sortP s.rows) e w' := by
  have hc := dwhich_any (fun _ => true) 35 #[] h enAll (fun w2 _ z => all1_any z w2)
  rw [List.filter_eq_self.2 (by simp)] at hc
  have HC := hid hc
  clear hc h
  go_enter Tryd.func21, Tryd.ntmps21
  go_wp2_with fail
  refine HC.out.mono ?_
  rintro e w1 ⟨⟨v, rfl, ho⟩, hE⟩
  have HO := hid ho
  have HE := hid hE
  obtain ⟨o, c, rfl⟩ := row_shape ho
  clear ho hE
  go_wp2
  go_ret
  exact ⟨⟨_, rfl, HO.out⟩, HE.out⟩
theorem next1_any (z : UInt64 × UInt64) (pl : UInt64) (b : Nat) (w : World) (hb : w.cell? ⟨b, 0, none⟩ = some (vU pl)) : Calls Tryd.prog 40 (#[.agg #[vU z.1, vU z.2]] ++ #[pv b]) w fun e w' => e = .returned (.bool (decide (pl < z.2))) ∧ Ext w w' := by
  obtain ⟨z1, z2⟩ := z
  show Calls Tryd.prog 40 #[.agg #[vU z1, vU z2], pv b] w fun e w' => e = .returned (.bool (decide (pl < z2))) ∧ Ext w w'
  have hc : ∀ o, (w.alloc o).cell? ⟨b, 0, none⟩ = some (vU pl) := fun o => (Ext.alloc w o).cell hb
  have hd : decide (pl < z2) = decide (pl.toNat < z2.toNat) := by simp only [u64_lt]
  rw [hd]
  go_enter Tryd.func40, Tryd.ntmps40
  go_wp2
  go_ret
  exact ⟨by simp, Ext.alloc _ _⟩
end Go.Proofs.YtfpljeblehieiaaDoor
