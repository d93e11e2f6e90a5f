/- Append. -/
import Derived.Test.YtkaafllbmeppnaaDskS
set_option linter.unusedSimpArgs false
set_option linter.unusedVariables false
namespace Go.Proofs.Ytkaafllbmeppnaa
open Go Go.RowKit Go.Tum Go.ChangeMaps
open Go.ParB (upd Lof)
open Go.ParE (putS slotsR slots Closed)

theorem infoU8 : (Try.prog.info? 5).map (fun i => (i.zero, i.size, i.bytes)) = some (some (.int .u8 0), 1, 1) := by kernel_rfl
theorem Byt.frp {B : Nat} {w w' : World} {p : Nat} {x : DX} {s : PS} {u : Value} {b : List UInt8} (hb : Byt w u b) (h : Dk B w p x s) (f : Fr [p] w w') : Byt w' u b := by
  obtain ⟨hl, ao, cap, rfl, h3, h4, h5, h6⟩ := hb
  refine ⟨hl, ao, cap, rfl, h3, h4, h5, fun a ha j v hv => ?_⟩
  have hc := h6 a ha j v hv
  have hne : (a.add j).block ≠ p := by
    intro e
    have hblk := h.hd
    unfold World.cell? at hc
    rw [e, hblk] at hc
    obtain ⟨c, -, hcv⟩ := List.mem_map.1 (List.mem_of_getElem? hv)
    subst hcv
    simp only [Option.bind_some, bv] at hc
    revert hc
    generalize (a.add j).off = k
    intro hc
    match k with
    | 0 => simp at hc
    | 1 => simp at hc
    | 2 => simp at hc
    | 3 =>
      obtain ⟨ao, cap, e⟩ : ∃ ao cap, x.vo = .slice ao s.opn.length cap := row_shape h.op
      rw [e] at hc
      simp at hc
    | 4 => simp at hc
    | 5 => simp at hc
    | k + 6 => simp at hc
  exact (f.cell (by simpa using hne) (World.block_lt_of_cell? w _ hc)).trans hc
theorem enter51 (args : Array Value) (w : World) : Sem.run Try.prog (callFunc 51 args) w = .ok (.enter 51 args) w := enter_of Try.func51 (by kernel_rfl) (by kernel_rfl) args w
theorem enter52 (args : Array Value) (w : World) : Sem.run Try.prog (callFunc 52 args) w = .ok (.enter 52 args) w := enter_of Try.func52 (by kernel_rfl) (by kernel_rfl) args w
set_option maxRecDepth 100000 in
set_option maxHeartbeats 1000000 in
theorem app1_any {B : Nat} {w : World} {p : Nat} {x : DX} {s : PS} (n : Nm) (b : List UInt8) (u : Value) (hk : n.length ≤ maxLen) (h : Dk B w p x s) (bd bn bb : Nat) (hd : Bx w bd (pv p) 25) (hn : Bx w bn (vN n) 9) (hb : Bx w bb u 32) (hu : Byt w u b) :
    Calls Try.prog 51 #[bp bd, bp bn, bp bb] w fun e w' => e = .returned (.int .i64 (appE s n b : Nat)) ∧ Ext w w' := by
  obtain ⟨uo, ucap, rfl, hule, humx, -, -⟩ := hu.open
  have H := hid h
  have HD := hid hd
  have HN := hid hn
  have HBB := hid hb
  have cn := hn.cell
  have cd := hd.cell
  obtain ⟨⟨-, d1, -⟩, -⟩ := lk6 h.hd
  have hlk := look_fact h n hk
  clear h hd hn hb hu
  cases hf : look s.dir n with
  | none =>
    have HC : Hid (appE s n b = 5) := hid (by unfold appE; rw [if_pos hf])
    rw [hf] at hlk
    simp only [Option.map_none, ptr] at hlk
    clear hf
    go_enter Try.func51, Try.ntmps51
    go_wp2_with fail
    go_quiet (fail)
    clear hlk d1
    go_wp2
    go_ret
    rw [HC.out]
    exact ⟨rfl, Ext.drewN _ _⟩
  | some f =>
    have HF := hid hf
    rw [hf] at hlk
    simp only [Option.map_some, ptr] at hlk
    clear hf
    generalize x.bk f = bf at *
    go_enter Try.func51, Try.ntmps51
    go_wp2_with fail
    go_quiet (fail)
    clear hlk d1 cd cn
    obtain ⟨w2, hw2⟩ : ∃ w2, w.drewN nq = w2 := ⟨_, rfl⟩
    have E2 : Ext w w2 := by rw [← hw2]; exact Ext.drewN _ _
    rw [hw2]
    clear hw2
    have H2 := hid (H.out.ext E2)
    have HE2 := hid E2
    have CD := hid (HD.out.ext E2).cell
    have CB := hid (HBB.out.ext E2).cell
    have CP := hid (lk6 H2.out.hd).1.1
    have hrm := H2.out.gd.rm
    have hhd := H2.out.gd.hd
    have hw1 : IntKind.i64.wrap ((s.room : Int) - (held s : Int)) = (s.room : Int) - (held s : Int) := IntWalk.i64_in _ (by omega)
    obtain ⟨BB, hBB⟩ : ∃ BB, decide ((s.room : Int) - (held s : Int) < (b.length : Int)) = BB := ⟨_, rfl⟩
    have HBD := hid hBB
    clear E2 hrm hhd
    go_wp2_with fail
    refine Par.wp_region_par (l := [_, _, _, _, _, _, _, _, _, _, _]) rfl Ext (Par.VL [Par.EQ (Value.slice uo b.length ucap), Par.EQ (Value.int IntKind.i64 (b.length : Nat)), Par.EQ (pv p), Par.EQ (pv p), Par.EQ (pv p), Par.EQ (Value.int IntKind.i64 (s.room : Nat)), Par.EQ (pv p), Par.EQ (Value.int IntKind.i64 (held s : Nat)), Par.EQ (Value.int IntKind.i64 ((s.room : Int) - (held s : Int))), Par.EQ (Value.bool BB), Par.EQ (Value.bool BB)]) (by kernel_rfl) Ext.refl (fun _ _ _ h1 h2 => Ext.trans h1 h2) (Ext.draw _) (Par.VL_stab ?_) ?_ ?_
    · simp only [List.forall_mem_cons, List.not_mem_nil, false_implies, implies_true, and_true]
      refine ⟨fun _ _ _ _ h => h, fun _ _ _ _ h => h, fun _ _ _ _ h => h, fun _ _ _ _ h => h, fun _ _ _ _ h => h, fun _ _ _ _ h => h, fun _ _ _ _ h => h, fun _ _ _ _ h => h, fun _ _ _ _ h => h, fun _ _ _ _ h => h, fun _ _ _ _ h => h⟩
    · refine ⟨⟨fun _ _ => trivial, fun ρ w' hX hG hk => ?_⟩, ?_⟩
      · obtain ⟨k0, -⟩ := hk
        have e0 : ρ (.tmp 2) = bp bb := k0
        clear k0
        refine Par.val_k fun K hK => ?_
        unfold Par.val
        (have cc := hX.cell CB.out; go_simp; exact hK _ _ ⟨Ext.refl _, rfl⟩)
      refine ⟨⟨fun _ _ => trivial, fun ρ w' hX hG hk => ?_⟩, ?_⟩
      · obtain ⟨k0, -⟩ := hk
        have e0 : ρ (.tmp 13) = Value.slice uo b.length ucap := k0
        clear k0
        refine Par.val_k fun K hK => ?_
        unfold Par.val
        (go_simp; exact hK _ _ ⟨Ext.refl _, rfl⟩)
      refine ⟨⟨fun _ _ => trivial, fun ρ w' hX hG hk => ?_⟩, ?_⟩
      · obtain ⟨k0, -⟩ := hk
        have e0 : ρ (.tmp 0) = bp bd := k0
        clear k0
        refine Par.val_k fun K hK => ?_
        unfold Par.val
        (have cc := hX.cell CD.out; go_simp; exact hK _ _ ⟨Ext.refl _, rfl⟩)
      refine ⟨⟨fun _ _ => trivial, fun ρ w' hX hG hk => ?_⟩, ?_⟩
      · obtain ⟨k0, -⟩ := hk
        have e0 : ρ (.tmp 15) = pv p := k0
        clear k0
        refine Par.val_k fun K hK => ?_
        unfold Par.val
        (go_simp; exact hK _ _ ⟨Ext.refl _, rfl⟩)
      refine ⟨⟨fun _ _ => trivial, fun ρ w' hX hG hk => ?_⟩, ?_⟩
      · obtain ⟨k0, -⟩ := hk
        have e0 : ρ (.tmp 16) = pv p := k0
        clear k0
        refine Par.val_k fun K hK => ?_
        unfold Par.val
        (go_simp; exact hK _ _ ⟨Ext.refl _, rfl⟩)
      refine ⟨⟨fun _ _ => trivial, fun ρ w' hX hG hk => ?_⟩, ?_⟩
      · obtain ⟨k0, -⟩ := hk
        have e0 : ρ (.tmp 17) = pv p := k0
        clear k0
        refine Par.val_k fun K hK => ?_
        unfold Par.val
        (have cc := hX.cell CP.out; go_simp; exact hK _ _ ⟨Ext.refl _, rfl⟩)
      refine ⟨⟨fun _ _ => trivial, fun ρ w' hX hG hk => ?_⟩, ?_⟩
      · obtain ⟨k0, -⟩ := hk
        have e0 : ρ (.tmp 0) = bp bd := k0
        clear k0
        refine Par.val_k fun K hK => ?_
        unfold Par.val
        (have cc := hX.cell CD.out; go_simp; exact hK _ _ ⟨Ext.refl _, rfl⟩)
      refine ⟨⟨fun _ _ => trivial, fun ρ w' hX hG hk => ?_⟩, ?_⟩
      · obtain ⟨k0, k1, -⟩ := hk
        have e0 := k0
        have e1 : ρ (.tmp 19) = pv p := k1
        clear k0 k1
        refine Par.val_k fun K hK => ?_
        unfold Par.val
        refine Par.val_call Try.func18 (by kernel_rfl) rfl e0 ?_
        simp only [List.map_toArray, List.map_cons, List.map_nil, e1]
        refine (dheld_any (H2.out.ext hX)).mono ?_
        rintro e w2 ⟨rfl, hx2⟩
        exact ⟨_, rfl, hK _ _ ⟨hx2, rfl⟩⟩
      refine ⟨⟨fun _ _ => trivial, fun ρ w' hX hG hk => ?_⟩, ?_⟩
      · obtain ⟨k0, k1, -⟩ := hk
        have e0 : ρ (.tmp 18) = Value.int IntKind.i64 (s.room : Nat) := k0
        have e1 : ρ (.tmp 20) = Value.int IntKind.i64 (held s : Nat) := k1
        clear k0 k1
        refine Par.val_k fun K hK => ?_
        unfold Par.val
        (go_simp; exact hK _ _ ⟨Ext.refl _, rfl⟩)
      refine ⟨⟨fun _ _ => trivial, fun ρ w' hX hG hk => ?_⟩, ?_⟩
      · obtain ⟨k0, k1, -⟩ := hk
        have e0 : ρ (.tmp 14) = Value.int IntKind.i64 (b.length : Nat) := k0
        have e1 : ρ (.tmp 21) = Value.int IntKind.i64 ((s.room : Int) - (held s : Int)) := k1
        clear k0 k1
        refine Par.val_k fun K hK => ?_
        unfold Par.val
        (go_simp; exact hK _ _ ⟨Ext.refl _, rfl⟩)
      refine ⟨⟨fun _ _ => trivial, fun ρ w' hX hG hk => ?_⟩, ?_⟩
      · obtain ⟨k0, -⟩ := hk
        have e0 : ρ (.tmp 22) = Value.bool BB := k0
        clear k0
        refine Par.val_k fun K hK => ?_
        unfold Par.val
        (go_simp; exact hK _ _ ⟨Ext.refl _, rfl⟩)
      trivial
    intro a' w' inv
    have hX := inv.ext
    have q13 : a'.tmps.getD 13 undef = Value.slice uo b.length ucap := inv.done 0 _ 13 rfl rfl rfl
    have q14 : a'.tmps.getD 14 undef = Value.int IntKind.i64 (b.length : Nat) := inv.done 1 _ 14 rfl rfl rfl
    have q15 : a'.tmps.getD 15 undef = pv p := inv.done 2 _ 15 rfl rfl rfl
    have q16 : a'.tmps.getD 16 undef = pv p := inv.done 3 _ 16 rfl rfl rfl
    have q17 : a'.tmps.getD 17 undef = pv p := inv.done 4 _ 17 rfl rfl rfl
    have q18 : a'.tmps.getD 18 undef = Value.int IntKind.i64 (s.room : Nat) := inv.done 5 _ 18 rfl rfl rfl
    have q19 : a'.tmps.getD 19 undef = pv p := inv.done 6 _ 19 rfl rfl rfl
    have q20 : a'.tmps.getD 20 undef = Value.int IntKind.i64 (held s : Nat) := inv.done 7 _ 20 rfl rfl rfl
    have q21 : a'.tmps.getD 21 undef = Value.int IntKind.i64 ((s.room : Int) - (held s : Int)) := inv.done 8 _ 21 rfl rfl rfl
    have q22 : a'.tmps.getD 22 undef = Value.bool BB := inv.done 9 _ 22 rfl rfl rfl
    have q12 : a'.tmps.getD 12 undef = Value.bool BB := inv.done 10 _ 12 rfl rfl rfl
    clear inv
    simp only [List.filterMap_cons, List.filterMap_nil, Par.putAll, Act.put, List.setIfInBounds_toArray, List.set_cons_succ, List.set_cons_zero, q13, q14, q15, q16, q17, q18, q19, q20, q21, q22, q12]
    clear q13 q14 q15 q16 q17 q18 q19 q20 q21 q22 q12
    clear a'
    have HX := hid hX
    clear hX hBB hw1
    by_cases hov : s.room < held s + b.length
    · have HC : Hid (appE s n b = 4) := hid (by unfold appE; rw [if_neg (by rw [HF.out]; simp), if_pos hov])
      have hbt : BB = true := by rw [← HBD.out, decide_eq_true_eq]; omega
      subst hbt
      clear hov
      go_wp2
      go_ret
      rw [HC.out]
      exact ⟨rfl, HE2.out.trans HX.out⟩
    · have HC : Hid (appE s n b = 0) := hid (by unfold appE; rw [if_neg (by rw [HF.out]; simp), if_neg hov])
      have hbt : BB = false := by rw [← HBD.out, decide_eq_false_iff_not]; omega
      subst hbt
      clear hov
      go_wp2
      go_ret
      rw [HC.out]
      exact ⟨rfl, HE2.out.trans HX.out⟩
end Go.Proofs.Ytkaafllbmeppnaa
