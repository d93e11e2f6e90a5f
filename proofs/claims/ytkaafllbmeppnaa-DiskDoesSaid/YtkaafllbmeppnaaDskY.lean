/- Cut, DirSync, Fuse. -/
import Derived.Test.YtkaafllbmeppnaaDskX
set_option linter.unusedSimpArgs false
set_option linter.unusedVariables false
namespace Go.Proofs.Ytkaafllbmeppnaa
open Go Go.RowKit Go.Tum Go.ChangeMaps
open Go.ParB (upd Lof)
open Go.ParE (putS slotsR slots Closed)
theorem enCut1 (args : Array Value) (w : World) : Sem.run Try.prog (callFunc 63 args) w = .ok (.enter 63 args) w := enter_of Try.func63 (by kernel_rfl) (by kernel_rfl) args w
theorem enCut2 (args : Array Value) (w : World) : Sem.run Try.prog (callFunc 64 args) w = .ok (.enter 64 args) w := enter_of Try.func64 (by kernel_rfl) (by kernel_rfl) args w
theorem enDirSync1 (args : Array Value) (w : World) : Sem.run Try.prog (callFunc 56 args) w = .ok (.enter 56 args) w := enter_of Try.func56 (by kernel_rfl) (by kernel_rfl) args w
theorem enDirSync2 (args : Array Value) (w : World) : Sem.run Try.prog (callFunc 57 args) w = .ok (.enter 57 args) w := enter_of Try.func57 (by kernel_rfl) (by kernel_rfl) args w
set_option maxHeartbeats 1000000 in
theorem cut1_any {B : Nat} {w : World} {p : Nat} {x : DX} {s : PS} (n : Nm) (k : Int) (hk : n.length ≤ maxLen) (h : Dk B w p x s) (bd bn bk : Nat) (hd : Bx w bd (pv p) 25) (hn : Bx w bn (vN n) 9) (hb : Bx w bk (.int .i64 k) 3) :
    Calls Try.prog 63 #[bp bd, bp bn, bp bk] w fun e w' => e = .returned (.int .i64 (cutE s n k : Nat)) ∧ Ext w w' := by
  have H := hid h
  have HBB := hid hb
  have cn := hn.cell
  have cd := hd.cell
  obtain ⟨⟨-, d1, -⟩, -⟩ := lk6 h.hd
  have hlk := look_fact h n hk
  clear hd hn hb
  cases hf : look s.dir n with
  | none =>
    have HC : Hid (cutE s n k = 5) := hid (by unfold cutE; rw [hf])
    rw [hf] at hlk
    simp only [Option.map_none, ptr] at hlk
    clear hf h
    go_enter Try.func63, Try.ntmps63
    go_wp2_with fail
    go_quiet (fail)
    clear hlk d1
    go_wp2
    go_ret
    rw [HC.out]
    exact ⟨rfl, Ext.drewN _ _⟩
  | some f =>
    have HF := hid hf
    have HFL := hid (h.gd.dnm (look_mem hf)).2
    rw [hf] at hlk
    simp only [Option.map_some, ptr] at hlk
    clear hf h
    obtain ⟨bf, hbf⟩ : ∃ bf, x.bk f = bf := ⟨_, rfl⟩
    have HBF := hid hbf
    rw [hbf] at hlk
    clear hbf
    go_enter Try.func63, Try.ntmps63
    go_wp2_with fail
    go_quiet (fail)
    clear hlk d1 cd cn
    obtain ⟨w2, hw2⟩ : ∃ w2, w.drewN nq = w2 := ⟨_, rfl⟩
    have E2 : Ext w w2 := by rw [← hw2]; exact Ext.drewN _ _
    rw [hw2]
    clear hw2
    have ck := (HBB.out.ext E2).cell
    obtain ⟨fo, fc, hblk, -, -⟩ := (H.out.ext E2).file HFL.out
    rw [HBF.out] at hblk
    obtain ⟨q0, -, -⟩ := lk2 hblk
    have HE2 := hid E2
    have HCE : Hid (cutE s n k = if k < 0 ∨ (flen s.files f : Int) < k then 1 else 0) := hid (by unfold cutE; rw [HF.out])
    clear E2 hblk
    obtain ⟨fl, hfl⟩ : ∃ fl, flen s.files f = fl := ⟨_, rfl⟩
    rw [hfl] at q0 HCE
    clear hfl
    by_cases h0 : k < 0
    · have g0 : decide (k < 0) = true := by simpa using h0
      have HC : Hid (cutE s n k = 1) := hid (by rw [HCE.out, if_pos (.inl h0)])
      clear h0
      go_wp2_with fail
      go_quiet (fail)
      go_wp2
      go_ret
      rw [HC.out]
      exact ⟨rfl, HE2.out.trans (Ext.drewN _ _)⟩
    · have g0 : decide (k < 0) = false := by simpa using h0
      by_cases h1 : (fl : Int) < k
      · have g1 : decide (k > (fl : Int)) = true := by simpa using h1
        have HC : Hid (cutE s n k = 1) := hid (by rw [HCE.out, if_pos (.inr h1)])
        clear h0 h1
        go_wp2_with fail
        go_quiet (fail)
        go_wp2
        go_ret
        rw [HC.out]
        exact ⟨rfl, HE2.out.trans (Ext.drewN _ _)⟩
      · have g1 : decide (k > (fl : Int)) = false := by simpa using h1
        have HC : Hid (cutE s n k = 0) := hid (by rw [HCE.out, if_neg (by rintro (h | h); exact h0 h; exact h1 h)])
        clear h0 h1
        go_wp2_with fail
        go_quiet (fail)
        go_wp2
        go_ret
        rw [HC.out]
        exact ⟨rfl, HE2.out.trans (Ext.drewN _ _)⟩
/-- A row cut short is one. -/
theorem own_take {w : World} {b e n cap : Nat} {ao : Option Addr} {l : List UInt8} (h : Own w b e (.slice ao n cap) l) (k : Nat) (hk : k ≤ n) (h0 : ao = none → k = 0 ∧ cap = 0) : Own w b e (.slice ao k cap) (l.take k) := by
  have hn := h.len
  unfold Own at h ⊢
  have hlen : (l.take k).length = k := by rw [List.length_take]; omega
  rw [hlen]
  refine ⟨by rw [List.length_map, hlen]; omega, ?_⟩
  rcases h.2 with ⟨hv, -⟩ | ⟨g, cap', cur, hv, hb, hgg, h1, h2, h3, h4⟩
  · cases hv
    obtain ⟨rfl, -⟩ := h0 rfl
    exact .inl ⟨rfl, rfl⟩
  · cases hv
    refine .inr ⟨g, cap, cur, rfl, hb, hgg, by omega, h2, h3, ?_⟩
    rw [List.map_take, ← h4, List.take_take]
    congr 1; omega
set_option maxRecDepth 100000 in
set_option maxHeartbeats 1000000 in
theorem cut2_any {B : Nat} {w : World} {p : Nat} {x : DX} {s : PS} (n : Nm) (k : Nat) (hk : n.length ≤ maxLen) (h : Dk B w p x s) (bd bn bk : Nat) (hd : Bx w bd (pv p) 25) (hn : Bx w bn (vN n) 9) (hb : Bx w bk (.int .i64 (k : Int)) 3) (hB : B ≤ w.heap.size)
    (f : Nat) (hf : look s.dir n = some f) (hkl : k ≤ flen s.files f) (hg : Gd (FilS s f fun y => (y.1.take k, min y.2 k))) :
    Calls Try.prog 64 #[bp bd, bp bn, bp bk] w fun e w' => (∃ u, e = .returned u) ∧ Stp B w p x (FilS s f fun y => (y.1.take k, min y.2 k)) w' := by
  have hfl : f < s.files.length := (h.gd.dnm (look_mem hf)).2
  have H := hid h
  have HBB := hid hb
  have HG := hid hg
  have HB := hid hB
  have cn := hn.cell
  have cd := hd.cell
  obtain ⟨⟨-, d1, -⟩, -⟩ := lk6 h.hd
  have hlk := look_fact h n hk
  rw [hf] at hlk
  simp only [Option.map_some, ptr] at hlk
  have HFL := hid hfl
  have HKL := hid hkl
  clear h hd hn hb hg hf hfl hB hkl
  go_enter Try.func64, Try.ntmps64
  go_wp2_with fail
  go_quiet (fail)
  clear hlk d1 cd cn
  obtain ⟨W, hW⟩ : ∃ W, w.drewN nq = W := ⟨_, rfl⟩
  have E1 : Ext w W := by rw [← hW]; exact Ext.drewN _ _
  rw [hW]
  clear hW
  have H1 := hid (H.out.ext E1)
  have HE1 := hid E1
  have CK := hid (HBB.out.ext E1).cell
  obtain ⟨fo, fc, hblk, hsv, hown⟩ := H1.out.file HFL.out
  have HBW : Hid (B ≤ W.heap.size) := hid (Nat.le_trans HB.out E1.size)
  have hfno : fo = none → fc = 0 := fun e => by
    obtain ⟨ao, cap, e2, -, -, h5, -⟩ := hown.byt.open
    rw [e] at e2
    cases e2
    rcases Nat.eq_zero_or_pos fc with h | h
    · exact h
    · obtain ⟨a, ha⟩ := h5 h; cases ha
  have hfcl : flen s.files f ≤ fc := by
    obtain ⟨ao, cap, e2, h3, -⟩ := hown.byt.open
    cases e2
    have := hown.len
    omega
  obtain ⟨bf, hbf⟩ : ∃ bf, x.bk f = bf := ⟨_, rfl⟩
  have HBF := hid hbf
  obtain ⟨l0, hl0⟩ : ∃ l0, (s.files.getD f ([], 0)).1 = l0 := ⟨_, rfl⟩
  have HL0 := hid hl0
  obtain ⟨m0, hm0⟩ : ∃ m0, (s.files.getD f ([], 0)).2 = m0 := ⟨_, rfl⟩
  have HM0 := hid hm0
  obtain ⟨fl, hfle⟩ : ∃ fl, flen s.files f = fl := ⟨_, rfl⟩
  rw [hfle] at HKL hfcl hblk hown hsv
  rw [hbf] at hblk ⊢
  rw [hl0] at hown
  rw [hm0] at hblk
  have HT : Hid (Own W B 5 (.slice fo k fc) (l0.take k)) := hid (own_take hown k HKL.out fun e => ⟨by have := hfno e; have := HKL.out; omega, hfno e⟩)
  have HBLK := hid hblk
  have HSV := hid hsv
  have C0 := hid (lk2 hblk).1
  have F0 := hid ((lk2 hblk).2.2 0)
  have hkc : k ≤ fc := Nat.le_trans HKL.out hfcl
  have HNB : Hid (bf ∉ oB (.slice fo fl fc)) := hid (row_no hown hblk (by intro cs e; simp at e))
  have HOBE : Hid (oB (.slice fo k fc) = oB (.slice fo fl fc)) := hid (by cases fo <;> rfl)
  clear E1 hblk hsv hown hbf hl0 hm0 hfle hfno hfcl
  go_wp2_with fail
  refine ParE.wp_region_e (l := [_, _, _, _, _, _, _, _, _, _]) rfl (Rg.R1 W 9 (fun w' => w'.heap[bf]? = some (fileO (.slice fo k fc) m0) ∧ Own w' B 5 (.slice fo k fc) (l0.take k) ∧ Fr [bf] W w')) (ParC.VC [ParC.EQ (bp bf), ParC.EQ (bp bf), ParC.EQ (bp bf), ParC.EQ (bp bf), ParC.EQ (Value.slice fo fl fc), ParC.EQ (Value.int IntKind.i64 (k : Int)), ParC.EQ (Value.slice fo k fc), ParC.EQ (bp bf), ParC.EQ (bp bf), fun _ => True]) (by kernel_rfl) (by kernel_rfl) (Rg.R1.start) ?_ ?_
  · refine ⟨fun L ρ w' hR hC hL hd hk => ?_, ?_⟩
    · exact Par.val_of_run rfl ⟨hR.other (by decide), hk.1⟩
    refine ⟨fun L ρ w' hR hC hL hd hk => ?_, ?_⟩
    · exact Par.val_of_run rfl ⟨hR.other (by decide), hk.1⟩
    refine ⟨fun L ρ w' hR hC hL hd hk => ?_, ?_⟩
    · obtain ⟨k0, -⟩ := hk
      have e0 : ρ (.tmp 11) = bp bf := k0
      clear k0
      refine Par.val_k fun K hK => ?_
      unfold Par.val
      (go_simp; exact hK _ _ ⟨hR.other (by decide), rfl⟩)
    refine ⟨fun L ρ w' hR hC hL hd hk => ?_, ?_⟩
    · obtain ⟨k0, -⟩ := hk
      have e0 : ρ (.tmp 12) = bp bf := k0
      clear k0
      refine Par.val_k fun K hK => ?_
      unfold Par.val
      (go_simp; exact hK _ _ ⟨hR.other (by decide), rfl⟩)
    refine ⟨fun L ρ w' hR hC hL hd hk => ?_, ?_⟩
    · obtain ⟨k0, -⟩ := hk
      have e0 : ρ (.tmp 13) = bp bf := k0
      clear k0
      refine Par.val_k fun K hK => ?_
      unfold Par.val
      (have hx := hR.a (hC.notyet 9 4 hL (by kernel_rfl)); have cc := hx.cell C0.out; go_simp; exact hK _ _ ⟨hR.other (by decide), rfl⟩)
    refine ⟨fun L ρ w' hR hC hL hd hk => ?_, ?_⟩
    · obtain ⟨k0, -⟩ := hk
      have e0 : ρ (.tmp 2) = bp bk := k0
      clear k0
      refine Par.val_k fun K hK => ?_
      unfold Par.val
      (have hx := hR.a (hC.notyet 9 5 hL (by kernel_rfl)); have cc := hx.cell CK.out; go_simp; exact hK _ _ ⟨hR.other (by decide), rfl⟩)
    refine ⟨fun L ρ w' hR hC hL hd hk => ?_, ?_⟩
    · obtain ⟨k0, k1, -⟩ := hk
      have e0 : ρ (.tmp 14) = Value.slice fo fl fc := k0
      have e1 : ρ (.tmp 15) = Value.int IntKind.i64 (k : Int) := k1
      clear k0 k1
      refine Par.val_k fun K hK => ?_
      unfold Par.val
      (go_simp; exact hK _ _ ⟨hR.other (by decide), rfl⟩)
    refine ⟨fun L ρ w' hR hC hL hd hk => ?_, ?_⟩
    · obtain ⟨k0, -⟩ := hk
      have e0 : ρ (.tmp 10) = bp bf := k0
      clear k0
      refine Par.val_k fun K hK => ?_
      unfold Par.val
      (go_simp; exact hK _ _ ⟨hR.other (by decide), rfl⟩)
    refine ⟨fun L ρ w' hR hC hL hd hk => ?_, ?_⟩
    · obtain ⟨k0, -⟩ := hk
      have e0 : ρ (.tmp 17) = bp bf := k0
      clear k0
      refine Par.val_k fun K hK => ?_
      unfold Par.val
      (go_simp; exact hK _ _ ⟨hR.other (by decide), rfl⟩)
    refine ⟨fun L ρ w' hR hC hL hd hk => ?_, ?_⟩
    · obtain ⟨k0, k1, -⟩ := hk
      have e0 : ρ (.tmp 18) = bp bf := k0
      have e1 : ρ (.tmp 16) = Value.slice fo k fc := k1
      clear k0 k1
      refine Par.val_k fun K hK => ?_
      unfold Par.val
      (have hx := hR.a hL; have hb2 := hx.obj HBLK.out; obtain ⟨cc, -, ff⟩ := lk2 hb2; have f0 := ff 0; obtain ⟨g1, g2, g3⟩ := byt_stored (S := []) hb2 (HT.out.ext hx) (Ext.fr hx); clear ff; go_simp; exact hK _ _ ⟨Rg.R1.last ⟨g1, g2, g3⟩, trivial⟩)
    trivial
  intro a' w' inv hR
  have q10 : a'.tmps.getD 10 undef = bp bf := inv.done 0 _ 10 rfl rfl rfl
  have q11 : a'.tmps.getD 11 undef = bp bf := inv.done 1 _ 11 rfl rfl rfl
  have q12 : a'.tmps.getD 12 undef = bp bf := inv.done 2 _ 12 rfl rfl rfl
  have q13 : a'.tmps.getD 13 undef = bp bf := inv.done 3 _ 13 rfl rfl rfl
  have q14 : a'.tmps.getD 14 undef = Value.slice fo fl fc := inv.done 4 _ 14 rfl rfl rfl
  have q15 : a'.tmps.getD 15 undef = Value.int IntKind.i64 (k : Int) := inv.done 5 _ 15 rfl rfl rfl
  have q16 : a'.tmps.getD 16 undef = Value.slice fo k fc := inv.done 6 _ 16 rfl rfl rfl
  have q17 : a'.tmps.getD 17 undef = bp bf := inv.done 7 _ 17 rfl rfl rfl
  have q18 : a'.tmps.getD 18 undef = bp bf := inv.done 8 _ 18 rfl rfl rfl
  clear inv
  simp only [List.filterMap_cons, List.filterMap_nil, Par.putAll, Act.put, List.setIfInBounds_toArray, List.set_cons_succ, List.set_cons_zero, q10, q11, q12, q13, q14, q15, q16, q17, q18]
  clear q10 q11 q12 q13 q14 q15 q16 q17 q18
  try clear a'
  obtain ⟨g1, g2, g3⟩ := hR.z rfl
  clear hR
  obtain ⟨W2, hW2⟩ : ∃ W2, W2 = w' := ⟨_, rfl⟩
  subst hW2
  have G1 := hid g1
  have G2 := hid g2
  have G3 := hid g3
  have C1 := hid (lk2 g1).2.1
  have CK2 : Hid (W2.cell? ⟨bk, 0, none⟩ = some (.int .i64 (k : Int))) := hid ((g3.cell (a := ⟨bk, 0, none⟩) (by
    simp only [List.mem_singleton]
    intro e
    have h1 := CK.out
    simp only [e] at h1
    have h2 := HBLK.out
    rw [e] at *
    rw [cell_of_row _ _ _ _ _ _ h2] at h1
    simp at h1) (World.block_lt_of_cell? W _ CK.out)).trans CK.out)
  clear g1 g2 g3
  go_wp2_with fail
  refine ParE.wp_region_e (l := [_, _, _, _, _, _, _, _, _, _]) rfl (Rg.R1 W2 9 (fun w' => w'.heap[bf]? = some (fileO (.slice fo k fc) (min m0 k)) ∧ Own w' B 5 (.slice fo k fc) (l0.take k) ∧ Fr [bf] W2 w')) (ParC.VC [ParC.EQ (bp bf), ParC.EQ (bp bf), ParC.EQ (bp bf), ParC.EQ (Value.pointer (some ⟨bf, 1, none⟩)), ParC.EQ (Value.int IntKind.i64 (m0 : Int)), ParC.EQ (Value.int IntKind.i64 (k : Int)), ParC.EQ (Value.int IntKind.i64 ((min m0 k : Nat) : Int)), ParC.EQ (bp bf), ParC.EQ (Value.pointer (some ⟨bf, 1, none⟩)), fun _ => True]) (by kernel_rfl) (by kernel_rfl) (Rg.R1.start) ?_ ?_
  · refine ⟨fun L ρ w' hR hC hL hd hk => ?_, ?_⟩
    · exact Par.val_of_run rfl ⟨hR.other (by decide), hk.1⟩
    refine ⟨fun L ρ w' hR hC hL hd hk => ?_, ?_⟩
    · exact Par.val_of_run rfl ⟨hR.other (by decide), hk.1⟩
    refine ⟨fun L ρ w' hR hC hL hd hk => ?_, ?_⟩
    · obtain ⟨k0, -⟩ := hk
      have e0 : ρ (.tmp 20) = bp bf := k0
      clear k0
      refine Par.val_k fun K hK => ?_
      unfold Par.val
      (go_simp; exact hK _ _ ⟨hR.other (by decide), rfl⟩)
    refine ⟨fun L ρ w' hR hC hL hd hk => ?_, ?_⟩
    · obtain ⟨k0, -⟩ := hk
      have e0 : ρ (.tmp 21) = bp bf := k0
      clear k0
      refine Par.val_k fun K hK => ?_
      unfold Par.val
      (go_simp; exact hK _ _ ⟨hR.other (by decide), rfl⟩)
    refine ⟨fun L ρ w' hR hC hL hd hk => ?_, ?_⟩
    · obtain ⟨k0, -⟩ := hk
      have e0 : ρ (.tmp 22) = Value.pointer (some ⟨bf, 1, none⟩) := k0
      clear k0
      refine Par.val_k fun K hK => ?_
      unfold Par.val
      (have hx := hR.a (hC.notyet 9 4 hL (by kernel_rfl)); have cc := hx.cell C1.out; go_simp; exact hK _ _ ⟨hR.other (by decide), rfl⟩)
    refine ⟨fun L ρ w' hR hC hL hd hk => ?_, ?_⟩
    · obtain ⟨k0, -⟩ := hk
      have e0 : ρ (.tmp 2) = bp bk := k0
      clear k0
      refine Par.val_k fun K hK => ?_
      unfold Par.val
      (have hx := hR.a (hC.notyet 9 5 hL (by kernel_rfl)); have cc := hx.cell CK2.out; go_simp; exact hK _ _ ⟨hR.other (by decide), rfl⟩)
    refine ⟨fun L ρ w' hR hC hL hd hk => ?_, ?_⟩
    · obtain ⟨k0, k1, -⟩ := hk
      have e0 : ρ (.tmp 23) = Value.int IntKind.i64 (m0 : Int) := k0
      have e1 : ρ (.tmp 24) = Value.int IntKind.i64 (k : Int) := k1
      clear k0 k1
      refine Par.val_k fun K hK => ?_
      unfold Par.val
      (have hmn : (if k < m0 then (k : Int) else (m0 : Int)) = ((min m0 k : Nat) : Int) := (by split <;> omega); go_simp; exact hK _ _ ⟨hR.other (by decide), rfl⟩)
    refine ⟨fun L ρ w' hR hC hL hd hk => ?_, ?_⟩
    · obtain ⟨k0, -⟩ := hk
      have e0 : ρ (.tmp 19) = bp bf := k0
      clear k0
      refine Par.val_k fun K hK => ?_
      unfold Par.val
      (go_simp; exact hK _ _ ⟨hR.other (by decide), rfl⟩)
    refine ⟨fun L ρ w' hR hC hL hd hk => ?_, ?_⟩
    · obtain ⟨k0, -⟩ := hk
      have e0 : ρ (.tmp 26) = bp bf := k0
      clear k0
      refine Par.val_k fun K hK => ?_
      unfold Par.val
      (go_simp; exact hK _ _ ⟨hR.other (by decide), rfl⟩)
    refine ⟨fun L ρ w' hR hC hL hd hk => ?_, ?_⟩
    · obtain ⟨k0, k1, -⟩ := hk
      have e0 : ρ (.tmp 27) = Value.pointer (some ⟨bf, 1, none⟩) := k0
      have e1 : ρ (.tmp 25) = Value.int IntKind.i64 ((min m0 k : Nat) : Int) := k1
      clear k0 k1
      refine Par.val_k fun K hK => ?_
      unfold Par.val
      (have hx := hR.a hL; have hb2 := hx.obj G1.out; obtain ⟨-, cc, ff⟩ := lk2 hb2; have f1 := ff 1; have g1 := box_set21 hb2 (.int .i64 ((min m0 k : Nat) : Int)); have g2 : Own (w'.setCell ⟨bf, 1, none⟩ (.int .i64 ((min m0 k : Nat) : Int))) B 5 (.slice fo k fc) (l0.take k) := ownsRow_fr (S := [bf]) (G2.out.ext hx) (fr_setCell _ _ _ (by simp)) (fun q hq hq2 => (by obtain rfl : q = bf := (by simpa using hq2); exact HNB.out (by rw [← HOBE.out]; exact hq))); clear ff; go_simp; exact hK _ _ ⟨Rg.R1.last ⟨g1, g2, (Ext.fr hx).trans (fr_setCell _ _ _ (by simp))⟩, trivial⟩)
    trivial
  intro a' w' inv hR
  have q19 : a'.tmps.getD 19 undef = bp bf := inv.done 0 _ 19 rfl rfl rfl
  have q20 : a'.tmps.getD 20 undef = bp bf := inv.done 1 _ 20 rfl rfl rfl
  have q21 : a'.tmps.getD 21 undef = bp bf := inv.done 2 _ 21 rfl rfl rfl
  have q22 : a'.tmps.getD 22 undef = Value.pointer (some ⟨bf, 1, none⟩) := inv.done 3 _ 22 rfl rfl rfl
  have q23 : a'.tmps.getD 23 undef = Value.int IntKind.i64 (m0 : Int) := inv.done 4 _ 23 rfl rfl rfl
  have q24 : a'.tmps.getD 24 undef = Value.int IntKind.i64 (k : Int) := inv.done 5 _ 24 rfl rfl rfl
  have q25 : a'.tmps.getD 25 undef = Value.int IntKind.i64 ((min m0 k : Nat) : Int) := inv.done 6 _ 25 rfl rfl rfl
  have q26 : a'.tmps.getD 26 undef = bp bf := inv.done 7 _ 26 rfl rfl rfl
  have q27 : a'.tmps.getD 27 undef = Value.pointer (some ⟨bf, 1, none⟩) := inv.done 8 _ 27 rfl rfl rfl
  clear inv
  simp only [List.filterMap_cons, List.filterMap_nil, Par.putAll, Act.put, List.setIfInBounds_toArray, List.set_cons_succ, List.set_cons_zero, q19, q20, q21, q22, q23, q24, q25, q26, q27]
  clear q19 q20 q21 q22 q23 q24 q25 q26 q27
  try clear a'
  obtain ⟨g1, g2, g3⟩ := hR.z rfl
  clear hR
  have HS : Hid (Stp B w p x (FilS s f fun y => (y.1.take k, min y.2 k)) w') := hid (by
    refine Stp.pre HE1.out HB.out (Stp.mod H1.out HFL.out HG.out (.slice fo k fc) ?_ ?_ ?_ ?_ HBW.out)
    · rw [HBF.out, HM0.out]; exact g1
    · rw [HL0.out]; exact g2
    · rw [HBF.out]; exact (G3.out.trans g3).mono (by intro q hq; simp at hq; simp [hq])
    · rw [HSV.out, HOBE.out]; exact fun q hq => .inl hq)
  clear g1 g2 g3
  go_wp2
  go_returns
  exact ⟨⟨_, rfl⟩, HS.out⟩
set_option maxHeartbeats 1000000 in
theorem dcut_any {B : Nat} {w : World} {p : Nat} {x : DX} {s : PS} (n : Nm) (k : Int) (hk : n.length ≤ maxLen) (h : Dk B w p x s) (hB : B ≤ w.heap.size) (hg : Gd (cutP s n k).2)  :
    Calls Try.prog 30 #[pv p, vN n, .int .i64 k] w fun e w' => DoR B w p x (cutP s n k) e w' := by
  have E0 : Ext w (w.alloc (.cells #[pv p] 25 (0, 0))) := Ext.alloc _ _
  have E1 : Ext w ((w.alloc (.cells #[pv p] 25 (0, 0))).alloc (.cells #[vN n] 9 (0, 0))) := E0.trans (Ext.alloc (w.alloc (.cells #[pv p] 25 (0, 0))) _)
  have E2 : Ext w (((w.alloc (.cells #[pv p] 25 (0, 0))).alloc (.cells #[vN n] 9 (0, 0))).alloc (.cells #[.int .i64 k] 3 (0, 0))) := E1.trans (Ext.alloc ((w.alloc (.cells #[pv p] 25 (0, 0))).alloc (.cells #[vN n] 9 (0, 0))) _)
  have b0 := ((Bx.new w (pv p) 25).ext (Ext.alloc (w.alloc (.cells #[pv p] 25 (0, 0))) (.cells #[vN n] 9 (0, 0)))).ext (Ext.alloc ((w.alloc (.cells #[pv p] 25 (0, 0))).alloc (.cells #[vN n] 9 (0, 0))) (.cells #[.int .i64 k] 3 (0, 0)))
  have b1 := (Bx.new (w.alloc (.cells #[pv p] 25 (0, 0))) (vN n) 9).ext (Ext.alloc ((w.alloc (.cells #[pv p] 25 (0, 0))).alloc (.cells #[vN n] 9 (0, 0))) (.cells #[.int .i64 k] 3 (0, 0)))
  simp only [World.size_alloc] at b1
  have b2 := Bx.new ((w.alloc (.cells #[pv p] 25 (0, 0))).alloc (.cells #[vN n] 9 (0, 0))) (.int .i64 k) 3
  simp only [World.size_alloc] at b2
  have HE := hid E2
  have H := hid (h.ext E2)
  have HG := hid hg
  have HB := hid hB
  obtain ⟨W0, hW0⟩ : ∃ W0, (((w.alloc (.cells #[pv p] 25 (0, 0))).alloc (.cells #[vN n] 9 (0, 0))).alloc (.cells #[.int .i64 k] 3 (0, 0))) = W0 := ⟨_, rfl⟩
  rw [hW0] at HE H b0 b1 b2
  have HB0 := hid b0
  have HB1 := hid b1
  have HB2 := hid b2
  have c0 := b0.cell
  clear h hg E0 b0 E1 b1 E2 b2
  go_enter Try.func30, Try.ntmps30
  go_wp2_with fail
  clear hW0 c0
  obtain ⟨a, ha⟩ : ∃ a, w.heap.size = a := ⟨_, rfl⟩
  rw [ha] at HB0
  rw [ha] at HB1
  rw [ha] at HB2
  rw [ha]
  obtain ⟨b, hb⟩ : ∃ b, a + 1 = b := ⟨_, rfl⟩
  rw [hb] at HB1
  rw [hb] at HB2
  rw [hb]
  obtain ⟨c, hc⟩ : ∃ c, b + 1 = c := ⟨_, rfl⟩
  rw [hc] at HB2
  rw [hc]
  have n0 : a ≠ p := fun e => by have := HB0.out; rw [e] at this; have h2 := H.out.hd; unfold Bx at this; rw [this] at h2; simp at h2
  have n1 : b ≠ p := fun e => by have := HB1.out; rw [e] at this; have h2 := H.out.hd; unfold Bx at this; rw [this] at h2; simp at h2
  have n2 : c ≠ p := fun e => by have := HB2.out; rw [e] at this; have h2 := H.out.hd; unfold Bx at this; rw [this] at h2; simp at h2
  refine (ddo_any H.out (Nat.le_trans HB.out HE.out.size) 63 64 #[bp a, bp b, bp c] #[bp a, bp b, bp c] enCut1 enCut2 (cutE s n k) (fun s => { s with files := setF s.files (look s.dir n) fun x => (x.1.take k.toNat, min x.2 k.toNat) })
    (fun _ w' k' => cut1_any n k hk (H.out.ext k') a b c (HB0.out.ext k') (HB1.out.ext k') (HB2.out.ext k'))
    (fun h1 h2 h3 w' hD hF hbw => ?_)).mono ?_
  · have hdone := doP_done (act := (fun s => { s with files := setF s.files (look s.dir n) fun x => (x.1.take k.toNat, min x.2 k.toNat) })) h1 h2 h3
    have hgd : Gd (((fun s => { s with files := setF s.files (look s.dir n) fun x => (x.1.take k.toNat, min x.2 k.toNat) })) (fusS s)) := by have := HG.out; unfold cutP at this; rw [hdone] at this; exact this
    have hB2 := Nat.le_trans (Nat.le_trans HB.out HE.out.size) hF.size
    have x0 := HB0.out.fr hF (by simpa using n0)
    have x1 := HB1.out.fr hF (by simpa using n1)
    have x2 := HB2.out.fr hF (by simpa using n2)
    obtain ⟨f, hf⟩ : ∃ f, look s.dir n = some f := by
      cases hq : look s.dir n with
      | some f => exact ⟨f, rfl⟩
      | none => exact absurd h2 (by unfold cutE; rw [hq]; simp)
    have hkk : 0 ≤ k ∧ k ≤ flen s.files f := by
      unfold cutE at h2
      rw [hf] at h2
      simp only at h2
      split at h2
      · cases h2
      · rename_i hno; omega
    have hkn : (k.toNat : Int) = k := by omega
    have hact : ({ fusS s with files := setF (fusS s).files (look (fusS s).dir n) fun x => (x.1.take k.toNat, min x.2 k.toNat) } : PS) = FilS (fusS s) f fun y => (y.1.take k.toNat, min y.2 k.toNat) := by
      show ({ fusS s with files := setF s.files (look s.dir n) fun x => (x.1.take k.toNat, min x.2 k.toNat) } : PS) = _
      rw [hf]; rfl
    have hgd2 : Gd (FilS (fusS s) f fun y => (y.1.take k.toNat, min y.2 k.toNat)) := by rw [← hact]; exact hgd
    rw [hact]
    exact cut2_any n k.toNat hk hD a b c x0 x1 (by rw [hkn]; exact x2) hB2 f hf (by show k.toNat ≤ flen s.files f; omega) hgd2
  · rintro e w2 ⟨rfl, h2⟩
    have HS : Hid (DoR B w p x (cutP s n k) _ w2) := hid (DoR.ext ⟨rfl, h2⟩ HE.out HB.out)
    clear h2
    go_wp2
    go_ret
    exact HS.out
end Go.Proofs.Ytkaafllbmeppnaa
