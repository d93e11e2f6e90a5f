/- Append: what it does. -/
import Derived.Test.YtkaafllbmeppnaaDskT
set_option linter.unusedSimpArgs false
set_option linter.unusedVariables false
namespace Go.Proofs.Ytkaafllbmeppnaa
open Go Go.RowKit Go.Tum Go.ChangeMaps
open Go.ParB (upd Lof)
open Go.ParE (putS slotsR slots Closed)

theorem run_app_u8 (base ty : Nat) {w : World} {v u : Value} {l1 l2 : List UInt8} (hown : Own w base 5 v l1) (hsl : Byt w u l2) (hb : l1.length + l2.length ≤ 140737488355328) (hbase : base ≤ w.heap.size) :
    ∃ v' w', (Builtin.append_ #[32, 32] ty #[v, u]).run Try.prog w = .ok v' w' ∧ Own w' base 5 v' (l1 ++ l2) ∧ Fr (oB v) w w' ∧ ∀ q ∈ oB v', q ∈ oB v ∨ w.heap.size ≤ q := by
  obtain ⟨i, hi1, hz, hs, hby⟩ := info_parts infoU8
  obtain ⟨hl, ao, cap, rfl, h3, h4, h5, h6⟩ := hsl
  cases ao with
  | none =>
    have hcap := h5 rfl
    subst hcap
    have h0 : l2.length = 0 := by omega
    obtain rfl : l2 = [] := List.length_eq_zero_iff.1 h0
    have hr := run_append_owned_none (P := Try.prog) w base 32 ty 5 i 1 Try.underlying32 hi1 v l1.length _ hown
    exact ⟨v, w, hr, by rw [List.append_nil]; exact hown, Fr.refl _ _, fun q hq => .inl hq⟩
  | some a =>
    obtain ⟨v', w', r1, r2, r3, -, r5⟩ := run_append_own_at (P := Try.prog) w base 32 ty 5 i _ 1 1 Try.underlying32 hi1 hz hs hby rfl (by decide) v l1.length _ hown a l2.length cap _ hl (fun j u hu => h6 a rfl j u hu) (bv_one _) (by simp [maxLen]; omega) (by omega) hbase
    have hb := below_grown hown hbase r3
    exact ⟨v', w', r1, by unfold Own; simpa using r2, fr_grown r3 hb, oB_at r5⟩
theorem modify_at {fs : List (List UInt8 × Nat)} {f : Nat} {g : List UInt8 × Nat → List UInt8 × Nat} {i : Nat} (h1 : i < (fs.modify f g).length) (h2 : i < fs.length) : (fs.modify f g)[i] = if i = f then g (fs.getD f ([], 0)) else fs[i] := by
  rw [List.getElem_modify]
  by_cases e : f = i
  · subst e
    rw [if_pos rfl, if_pos rfl, List.getD_eq_getElem?_getD, List.getElem?_eq_getElem h2]; rfl
  · rw [if_neg e, if_neg (Ne.symm e)]
/-- What a file's act leaves. -/
def FilS (s : PS) (f : Nat) (g : List UInt8 × Nat → List UInt8 × Nat) : PS := { s with files := s.files.modify f g }
theorem Stp.mod {B : Nat} {w w' : World} {p : Nat} {x : DX} {s : PS} {f : Nat} {g : List UInt8 × Nat → List UInt8 × Nat} (h : Dk B w p x s) (hf : f < s.files.length) (hg : Gd (FilS s f g)) (v : Value) (hb : w'.heap[x.bk f]? = some (fileO v (g (s.files.getD f ([], 0))).2))
    (ho : Own w' B 5 v (g (s.files.getD f ([], 0))).1) (F : Fr (x.bk f :: oB (x.sv f)) w w') (hn : ∀ q ∈ oB v, q ∈ oB (x.sv f) ∨ w.heap.size ≤ q) (hB : B ≤ w.heap.size) : Stp B w p x (FilS s f g) w' :=
  Stp.file h hf v (h.fileSet hf v _ _ hb ho F hn ⟨rfl, rfl, rfl, rfl, rfl⟩ (by simp [FilS]) (fun i h1 h2 => modify_at h1 h2) hg) F hn hB
theorem Stp.pre {B : Nat} {w w1 w2 : World} {p : Nat} {x : DX} {s2 : PS} (k : Ext w w1) (hB : B ≤ w.heap.size) (h : Stp B w1 p x s2 w2) : Stp B w p x s2 w2 := by
  obtain ⟨x', d, f, b, q⟩ := h
  refine ⟨x', d, (Ext.fr k).trans f, (k.mono hB).trans b, fun y hy => ?_⟩
  rcases q y hy with h2 | h2
  · exact .inl h2
  · exact .inr (Nat.le_trans k.size h2)
theorem box_set2 {w : World} {b : Nat} {v0 v1 : Value} {ty : TypeId} (h : w.heap[b]? = some (.cells #[v0, v1] ty (0, 0))) (u : Value) : (w.setCell ⟨b, 0, none⟩ u).heap[b]? = some (.cells #[u, v1] ty (0, 0)) := block_set6 h 0 u
theorem box_set21 {w : World} {b : Nat} {v0 v1 : Value} {ty : TypeId} (h : w.heap[b]? = some (.cells #[v0, v1] ty (0, 0))) (u : Value) : (w.setCell ⟨b, 1, none⟩ u).heap[b]? = some (.cells #[v0, u] ty (0, 0)) := block_set6 h 1 u
/-- The file's bytes are stored. -/
theorem byt_stored {B bf m : Nat} {W w : World} {v0 v : Value} {l : List UInt8} {S : List Nat} (hb : w.heap[bf]? = some (fileO v0 m)) (ho : Own w B 5 v l) (F : Fr S W w) : (w.setCell ⟨bf, 0, none⟩ v).heap[bf]? = some (fileO v m) ∧ Own (w.setCell ⟨bf, 0, none⟩ v) B 5 v l ∧ Fr (bf :: S) W (w.setCell ⟨bf, 0, none⟩ v) := by
  refine ⟨box_set2 hb v, ownsRow_fr (S := [bf]) ho (fr_setCell _ _ _ (by simp)) (fun q hq hq2 => ?_), (F.mono (by intro q hq; simp [hq])).trans (fr_setCell _ _ _ (by simp))⟩
  obtain rfl : q = bf := by simpa using hq2
  exact row_no ho hb (by intro cs e; simp at e) hq
set_option maxRecDepth 100000 in
set_option maxHeartbeats 1000000 in
theorem app2_any {B : Nat} {w : World} {p : Nat} {x : DX} {s : PS} (n : Nm) (b : List UInt8) (u : Value) (hk : n.length ≤ maxLen) (h : Dk B w p x s) (bd bn bb : Nat) (hd : Bx w bd (pv p) 25) (hn : Bx w bn (vN n) 9) (hb : Bx w bb u 32) (hu : Byt w u b) (hB : B ≤ w.heap.size)
    (f : Nat) (hf : look s.dir n = some f) (hg : Gd (FilS s f fun y => (y.1 ++ b, y.2))) (hbl : b.length ≤ 1048576) :
    Calls Try.prog 52 #[bp bd, bp bn, bp bb] w fun e w' => (∃ u, e = .returned u) ∧ Stp B w p x (FilS s f fun y => (y.1 ++ b, y.2)) w' := by
  obtain ⟨uo, ucap, hue, hule, humx, -, -⟩ := hu.open
  have hfl : f < s.files.length := (h.gd.dnm (look_mem hf)).2
  have H := hid h
  have HBB := hid hb
  have HU := hid hu
  have HG := hid hg
  have HB := hid hB
  have cn := hn.cell
  have cd := hd.cell
  obtain ⟨⟨-, d1, -⟩, -⟩ := lk6 h.hd
  have hlk := look_fact h n hk
  rw [hf] at hlk
  simp only [Option.map_some, ptr] at hlk
  have HFL := hid hfl
  have HUE := hid hue
  clear h hd hn hb hu hg hf hfl hB hue
  go_enter Try.func52, Try.ntmps52
  go_wp2_with fail
  go_quiet (fail)
  clear hlk d1 cd cn
  obtain ⟨W, hW⟩ : ∃ W, w.drewN nq = W := ⟨_, rfl⟩
  have E1 : Ext w W := by rw [← hW]; exact Ext.drewN _ _
  rw [hW]
  clear hW
  have H1 := hid (H.out.ext E1)
  have HE1 := hid E1
  have CB := hid (HBB.out.ext E1).cell
  rw [HUE.out] at CB
  obtain ⟨fo, fc, hblk, hsv, hown⟩ := H1.out.file HFL.out
  have C0 := hid (lk2 hblk).1
  have HBLK := hid hblk
  have HOWN := hid hown
  have HSV := hid hsv
  have hfb := (H.out.gd.fl (s.files.getD f ([], 0)) (getD_mem HFL.out)).2
  have HBW : Hid (B ≤ W.heap.size) := hid (Nat.le_trans HB.out E1.size)
  obtain ⟨bf, hbf⟩ : ∃ bf, x.bk f = bf := ⟨_, rfl⟩
  have HBF := hid hbf
  obtain ⟨l0, hl0⟩ : ∃ l0, (s.files.getD f ([], 0)).1 = l0 := ⟨_, rfl⟩
  have HL0 := hid hl0
  obtain ⟨m0, hm0⟩ : ∃ m0, (s.files.getD f ([], 0)).2 = m0 := ⟨_, rfl⟩
  have HM0 := hid hm0
  obtain ⟨fl, hfle⟩ : ∃ fl, flen s.files f = fl := ⟨_, rfl⟩
  rw [hbf] at C0 HBLK ⊢
  rw [hfle] at C0 HBLK HOWN HSV
  rw [hl0] at HOWN hfb
  rw [hm0] at HBLK
  have HFB := hid hfb
  clear E1 hblk hown hsv hbf hl0 hm0 hfle hfb
  go_wp2_with fail
  refine ParE.wp_region_e (l := [_, _, _, _, _, _, _, _, _, _]) rfl (Rg.R2 W 6 16 9 (fun v w' => Own w' B 5 v (l0 ++ b) ∧ Fr (oB (.slice fo fl fc)) W w' ∧ ∀ q ∈ oB v, q ∈ oB (.slice fo fl fc) ∨ W.heap.size ≤ q) (fun w' => ∃ v, w'.heap[bf]? = some (fileO v m0) ∧ Own w' B 5 v (l0 ++ b) ∧ Fr (bf :: oB (.slice fo fl fc)) W w' ∧ ∀ q ∈ oB v, q ∈ oB (.slice fo fl fc) ∨ W.heap.size ≤ q)) (ParC.VC [ParC.EQ (bp bf), ParC.EQ (bp bf), ParC.EQ (bp bf), ParC.EQ (bp bf), ParC.EQ (Value.slice fo fl fc), ParC.EQ (Value.slice uo b.length ucap), (fun _ => True), ParC.EQ (bp bf), ParC.EQ (bp bf), fun _ => True]) (by kernel_rfl) (by kernel_rfl) (Rg.R2.start) ?_ ?_
  · refine ⟨fun L ρ w' hR hC hL hd hk => ?_, ?_⟩
    · exact Par.val_of_run rfl ⟨hR.other (by decide), hk.1⟩
    refine ⟨fun L ρ w' hR hC hL hd hk => ?_, ?_⟩
    · exact Par.val_of_run rfl ⟨hR.other (by decide), hk.1⟩
    refine ⟨fun L ρ w' hR hC hL hd hk => ?_, ?_⟩
    · obtain ⟨k0, -⟩ := hk
      have e0 : ρ (.tmp 11) = bp bf := k0
      clear k0
      refine Par.val_k fun K hK => ?_
      unfold Par.val
      (go_simp; exact hK _ _ ⟨hR.other (by decide), rfl⟩)
    refine ⟨fun L ρ w' hR hC hL hd hk => ?_, ?_⟩
    · obtain ⟨k0, -⟩ := hk
      have e0 : ρ (.tmp 12) = bp bf := k0
      clear k0
      refine Par.val_k fun K hK => ?_
      unfold Par.val
      (go_simp; exact hK _ _ ⟨hR.other (by decide), rfl⟩)
    refine ⟨fun L ρ w' hR hC hL hd hk => ?_, ?_⟩
    · obtain ⟨k0, -⟩ := hk
      have e0 : ρ (.tmp 13) = bp bf := k0
      clear k0
      refine Par.val_k fun K hK => ?_
      unfold Par.val
      (have hx := hR.a (hC.notyet 6 4 hL (by kernel_rfl)) (hC.notyet 9 4 hL (by kernel_rfl)); have cc := hx.cell C0.out; go_simp; exact hK _ _ ⟨hR.other (by decide), rfl⟩)
    refine ⟨fun L ρ w' hR hC hL hd hk => ?_, ?_⟩
    · obtain ⟨k0, -⟩ := hk
      have e0 : ρ (.tmp 2) = bp bb := k0
      clear k0
      refine Par.val_k fun K hK => ?_
      unfold Par.val
      (have hx := hR.a (hC.notyet 6 5 hL (by kernel_rfl)) (hC.notyet 9 5 hL (by kernel_rfl)); have cc := hx.cell CB.out; go_simp; exact hK _ _ ⟨hR.other (by decide), rfl⟩)
    refine ⟨fun L ρ w' hR hC hL hd hk => ?_, ?_⟩
    · obtain ⟨k0, k1, -⟩ := hk
      have e0 : ρ (.tmp 14) = Value.slice fo fl fc := k0
      have e1 : ρ (.tmp 15) = Value.slice uo b.length ucap := k1
      clear k0 k1
      refine Par.val_k fun K hK => ?_
      unfold Par.val
      (have n9 := hC.notyet 9 6 hL (by kernel_rfl); have hx := hR.a hL n9; have hby := HU.out.ext (HE1.out.trans hx); rw [HUE.out] at hby; obtain ⟨v', w2, r1, r2, r3, r4⟩ := run_app_u8 B 32 (HOWN.out.ext hx) hby (by have := HFB.out; omega) (Nat.le_trans HBW.out hx.size); rw [← e0, ← e1] at r1; exact Par.val_append r1 (hK _ _ ⟨Rg.R2.one (by decide) n9 ⟨r2, (Ext.fr hx).trans r3, fun q hq => (r4 q hq).imp id (fun h => Nat.le_trans hx.size h)⟩, trivial⟩))
    refine ⟨fun L ρ w' hR hC hL hd hk => ?_, ?_⟩
    · obtain ⟨k0, -⟩ := hk
      have e0 : ρ (.tmp 10) = bp bf := k0
      clear k0
      refine Par.val_k fun K hK => ?_
      unfold Par.val
      (go_simp; exact hK _ _ ⟨hR.other (by decide), rfl⟩)
    refine ⟨fun L ρ w' hR hC hL hd hk => ?_, ?_⟩
    · obtain ⟨k0, -⟩ := hk
      have e0 : ρ (.tmp 17) = bp bf := k0
      clear k0
      refine Par.val_k fun K hK => ?_
      unfold Par.val
      (go_simp; exact hK _ _ ⟨hR.other (by decide), rfl⟩)
    refine ⟨fun L ρ w' hR hC hL hd hk => ?_, ?_⟩
    · obtain ⟨k0, k1, -⟩ := hk
      have e0 : ρ (.tmp 18) = bp bf := k0
      have e1 : (fun _ => True) (ρ (.tmp 16))  := k1
      clear k0 k1
      refine Par.val_k fun K hK => ?_
      unfold Par.val
      (have h6 := hC.before 6 (i := 9) rfl hd (by kernel_rfl); obtain ⟨o1, o2, o3⟩ := hR.b h6 hL; have hnb : bf ∉ oB (.slice fo fl fc) := row_no HOWN.out HBLK.out (by intro cs e; simp at e); have hb2 := (o2.block bf (Array.getElem?_eq_some_iff.1 HBLK.out).1 hnb).trans HBLK.out; obtain ⟨cc, -, ff⟩ := lk2 hb2; obtain ⟨a3, c3, e3⟩ := row_shape o1; obtain ⟨n3, hn3⟩ : ∃ n, (l0 ++ b).length = n := ⟨_, rfl⟩; rw [hn3] at e3; have e4 : ρ (.tmp 16) = .slice a3 n3 c3 := e3; have o1' : Own w' B 5 (.slice a3 n3 c3) (l0 ++ b) := (by rw [← e3]; exact o1); have o3' : ∀ q ∈ oB (.slice a3 n3 c3), q ∈ oB (.slice fo fl fc) ∨ W.heap.size ≤ q := (by rw [← e3]; exact o3); obtain ⟨g1, g2, g3⟩ := byt_stored hb2 o1' o2; clear hn3; go_simp; exact hK _ _ ⟨Rg.R2.two ⟨_, g1, g2, g3, o3'⟩, trivial⟩)
    trivial
  intro a' w' inv hR
  have q10 : a'.tmps.getD 10 undef = bp bf := inv.done 0 _ 10 rfl rfl rfl
  have q11 : a'.tmps.getD 11 undef = bp bf := inv.done 1 _ 11 rfl rfl rfl
  have q12 : a'.tmps.getD 12 undef = bp bf := inv.done 2 _ 12 rfl rfl rfl
  have q13 : a'.tmps.getD 13 undef = bp bf := inv.done 3 _ 13 rfl rfl rfl
  have q14 : a'.tmps.getD 14 undef = Value.slice fo fl fc := inv.done 4 _ 14 rfl rfl rfl
  have q15 : a'.tmps.getD 15 undef = Value.slice uo b.length ucap := inv.done 5 _ 15 rfl rfl rfl
  have q16 : (fun _ => True) (a'.tmps.getD 16 undef)  := inv.done 6 _ 16 rfl rfl rfl
  have q17 : a'.tmps.getD 17 undef = bp bf := inv.done 7 _ 17 rfl rfl rfl
  have q18 : a'.tmps.getD 18 undef = bp bf := inv.done 8 _ 18 rfl rfl rfl
  clear inv
  simp only [List.filterMap_cons, List.filterMap_nil, Par.putAll, Act.put, List.setIfInBounds_toArray, List.set_cons_succ, List.set_cons_zero, q10, q11, q12, q13, q14, q15, q17, q18]
  clear q10 q11 q12 q13 q14 q15 q17 q18
  generalize a'.tmps.getD 16 undef = u16 at *
  try clear a'
  obtain ⟨v, g1, g2, g3, g4⟩ := hR.z rfl
  clear hR
  have HS : Hid (Stp B w p x (FilS s f fun y => (y.1 ++ b, y.2)) w') := hid (by
    refine Stp.pre HE1.out HB.out (Stp.mod H1.out HFL.out HG.out v ?_ ?_ ?_ ?_ HBW.out)
    · rw [HBF.out, HM0.out]; exact g1
    · rw [HL0.out]; exact g2
    · rw [HBF.out, HSV.out]; exact g3
    · rw [HSV.out]; exact g4)
  clear g1 g2 g3 g4
  go_wp2
  go_returns
  exact ⟨⟨_, rfl⟩, HS.out⟩
end Go.Proofs.Ytkaafllbmeppnaa
