/- Sync, Delete, Rename. -/
import Derived.Test.YtkaafllbmeppnaaDskV
set_option linter.unusedSimpArgs false
set_option linter.unusedVariables false
namespace Go.Proofs.Ytkaafllbmeppnaa
open Go Go.RowKit Go.Tum Go.ChangeMaps
open Go.ParB (upd Lof)
open Go.ParE (putS slotsR slots Closed)
theorem enSync1 (args : Array Value) (w : World) : Sem.run Try.prog (callFunc 53 args) w = .ok (.enter 53 args) w := enter_of Try.func53 (by kernel_rfl) (by kernel_rfl) args w
theorem enSync2 (args : Array Value) (w : World) : Sem.run Try.prog (callFunc 55 args) w = .ok (.enter 55 args) w := enter_of Try.func55 (by kernel_rfl) (by kernel_rfl) args w
theorem enDelete1 (args : Array Value) (w : World) : Sem.run Try.prog (callFunc 65 args) w = .ok (.enter 65 args) w := enter_of Try.func65 (by kernel_rfl) (by kernel_rfl) args w
theorem enDelete2 (args : Array Value) (w : World) : Sem.run Try.prog (callFunc 66 args) w = .ok (.enter 66 args) w := enter_of Try.func66 (by kernel_rfl) (by kernel_rfl) args w
theorem enRename1 (args : Array Value) (w : World) : Sem.run Try.prog (callFunc 61 args) w = .ok (.enter 61 args) w := enter_of Try.func61 (by kernel_rfl) (by kernel_rfl) args w
theorem enRename2 (args : Array Value) (w : World) : Sem.run Try.prog (callFunc 62 args) w = .ok (.enter 62 args) w := enter_of Try.func62 (by kernel_rfl) (by kernel_rfl) args w
theorem syn1_any {B : Nat} {w : World} {p : Nat} {x : DX} {s : PS} (n : Nm) (hk : n.length ≤ maxLen) (h : Dk B w p x s) (bd bn : Nat) (hd : Bx w bd (pv p) 25) (hn : Bx w bn (vN n) 9) :
    Calls Try.prog 53 #[bp bd, bp bn] w fun e w' => e = .returned (.int .i64 (missP s n : Nat)) ∧ Ext w w' := by
  have cn := hn.cell
  have cd := hd.cell
  have H := hid h
  clear h hd hn
  go_enter Try.func53, Try.ntmps53
  go_wp2_with fail
  refine (dmiss_any n hk H.out).mono ?_
  rintro e w1 ⟨rfl, rfl⟩
  go_wp2
  go_ret
  exact ⟨rfl, Ext.refl _⟩
theorem del1_any {B : Nat} {w : World} {p : Nat} {x : DX} {s : PS} (n : Nm) (hk : n.length ≤ maxLen) (h : Dk B w p x s) (bd bn : Nat) (hd : Bx w bd (pv p) 25) (hn : Bx w bn (vN n) 9) :
    Calls Try.prog 65 #[bp bd, bp bn] w fun e w' => e = .returned (.int .i64 (missP s n : Nat)) ∧ Ext w w' := by
  have cn := hn.cell
  have cd := hd.cell
  have H := hid h
  clear h hd hn
  go_enter Try.func65, Try.ntmps65
  go_wp2_with fail
  refine (dmiss_any n hk H.out).mono ?_
  rintro e w1 ⟨rfl, rfl⟩
  go_wp2
  go_ret
  exact ⟨rfl, Ext.refl _⟩
theorem miss_some {s : PS} {n : Nm} (h : missP s n = 0) : ∃ f, look s.dir n = some f := by
  unfold missP at h
  cases hq : look s.dir n with
  | some f => exact ⟨f, rfl⟩
  | none => rw [if_pos hq] at h; cases h
set_option maxHeartbeats 1000000 in
theorem syn2_any {B : Nat} {w : World} {p : Nat} {x : DX} {s : PS} (n : Nm) (hk : n.length ≤ maxLen) (h : Dk B w p x s) (bd bn : Nat) (hd : Bx w bd (pv p) 25) (hn : Bx w bn (vN n) 9) (hB : B ≤ w.heap.size)
    (f : Nat) (hf : look s.dir n = some f) (hg : Gd (FilS s f fun y => (y.1, y.1.length))) :
    Calls Try.prog 55 #[bp bd, bp bn] w fun e w' => (∃ u, e = .returned u) ∧ Stp B w p x (FilS s f fun y => (y.1, y.1.length)) w' := by
  have hfl : f < s.files.length := (h.gd.dnm (look_mem hf)).2
  have H := hid h
  have HG := hid hg
  have HB := hid hB
  have cn := hn.cell
  have cd := hd.cell
  obtain ⟨⟨-, d1, -⟩, -⟩ := lk6 h.hd
  have hlk := look_fact h n hk
  rw [hf] at hlk
  simp only [Option.map_some, ptr] at hlk
  have HFL := hid hfl
  clear h hd hn hg hf hfl hB
  go_enter Try.func55, Try.ntmps55
  go_wp2_with fail
  go_quiet (fail)
  clear hlk d1 cd cn
  obtain ⟨W, hW⟩ : ∃ W, w.drewN nq = W := ⟨_, rfl⟩
  have E1 : Ext w W := by rw [← hW]; exact Ext.drewN _ _
  rw [hW]
  clear hW
  have H1 := hid (H.out.ext E1)
  have HE1 := hid E1
  obtain ⟨fo, fc, hblk, hsv, hown⟩ := H1.out.file HFL.out
  obtain ⟨q0, q1, ff⟩ := lk2 hblk
  have f1 := ff 1
  have HBW : Hid (B ≤ W.heap.size) := hid (Nat.le_trans HB.out E1.size)
  have HS : Hid (Stp B w p x (FilS s f fun y => (y.1, y.1.length)) (W.setCell ⟨x.bk f, 1, none⟩ (.int .i64 (flen s.files f : Int)))) := hid (by
    have hfr : Fr (x.bk f :: oB (x.sv f)) W (W.setCell ⟨x.bk f, 1, none⟩ (.int .i64 (flen s.files f : Int))) := fr_setCell _ _ _ (by simp)
    refine Stp.pre HE1.out HB.out (Stp.mod H1.out HFL.out HG.out (x.sv f) ?_ ?_ hfr (fun q hq => .inl hq) HBW.out)
    · rw [hsv]
      exact box_set21 hblk _
    · rw [hsv]
      refine ownsRow_fr (S := [x.bk f]) hown (fr_setCell _ _ _ (by simp)) fun q hq hq2 => ?_
      obtain rfl : q = x.bk f := by simpa using hq2
      exact row_no hown hblk (by intro cs e; simp at e) hq)
  clear E1 hblk hsv hown ff
  generalize flen s.files f = fl at *
  generalize x.bk f = bf at *
  go_wp2
  go_returns
  exact ⟨⟨_, rfl⟩, HS.out⟩
set_option maxHeartbeats 1000000 in
theorem dsync_any {B : Nat} {w : World} {p : Nat} {x : DX} {s : PS} (n : Nm) (hk : n.length ≤ maxLen) (h : Dk B w p x s) (hB : B ≤ w.heap.size) (hg : Gd (synP s n).2)  :
    Calls Try.prog 25 #[pv p, vN n] w fun e w' => DoR B w p x (synP s n) e w' := by
  have E0 : Ext w (w.alloc (.cells #[pv p] 25 (0, 0))) := Ext.alloc _ _
  have E1 : Ext w ((w.alloc (.cells #[pv p] 25 (0, 0))).alloc (.cells #[vN n] 9 (0, 0))) := E0.trans (Ext.alloc (w.alloc (.cells #[pv p] 25 (0, 0))) _)
  have b0 := (Bx.new w (pv p) 25).ext (Ext.alloc (w.alloc (.cells #[pv p] 25 (0, 0))) (.cells #[vN n] 9 (0, 0)))
  have b1 := Bx.new (w.alloc (.cells #[pv p] 25 (0, 0))) (vN n) 9
  simp only [World.size_alloc] at b1
  have HE := hid E1
  have H := hid (h.ext E1)
  have HG := hid hg
  have HB := hid hB
  obtain ⟨W0, hW0⟩ : ∃ W0, ((w.alloc (.cells #[pv p] 25 (0, 0))).alloc (.cells #[vN n] 9 (0, 0))) = W0 := ⟨_, rfl⟩
  rw [hW0] at HE H b0 b1
  have HB0 := hid b0
  have HB1 := hid b1
  have c0 := b0.cell
  clear h hg E0 b0 E1 b1
  go_enter Try.func25, Try.ntmps25
  go_wp2_with fail
  clear hW0 c0
  obtain ⟨a, ha⟩ : ∃ a, w.heap.size = a := ⟨_, rfl⟩
  rw [ha] at HB0
  rw [ha] at HB1
  rw [ha]
  obtain ⟨b, hb⟩ : ∃ b, a + 1 = b := ⟨_, rfl⟩
  rw [hb] at HB1
  rw [hb]
  have n0 : a ≠ p := fun e => by have := HB0.out; rw [e] at this; have h2 := H.out.hd; unfold Bx at this; rw [this] at h2; simp at h2
  have n1 : b ≠ p := fun e => by have := HB1.out; rw [e] at this; have h2 := H.out.hd; unfold Bx at this; rw [this] at h2; simp at h2
  refine (ddo_any H.out (Nat.le_trans HB.out HE.out.size) 53 55 #[bp a, bp b] #[bp a, bp b] enSync1 enSync2 (missP s n) (fun s => { s with files := setF s.files (look s.dir n) fun x => (x.1, x.1.length) })
    (fun _ w' k => syn1_any n hk (H.out.ext k) a b (HB0.out.ext k) (HB1.out.ext k))
    (fun h1 h2 h3 w' hD hF hbw => ?_)).mono ?_
  · have hdone := doP_done (act := (fun s => { s with files := setF s.files (look s.dir n) fun x => (x.1, x.1.length) })) h1 h2 h3
    have hgd : Gd (((fun s => { s with files := setF s.files (look s.dir n) fun x => (x.1, x.1.length) })) (fusS s)) := by have := HG.out; unfold synP at this; rw [hdone] at this; exact this
    have hB2 := Nat.le_trans (Nat.le_trans HB.out HE.out.size) hF.size
    have x0 := HB0.out.fr hF (by simpa using n0)
    have x1 := HB1.out.fr hF (by simpa using n1)
    obtain ⟨f, hf⟩ := miss_some h2
    have hact : ({ fusS s with files := setF (fusS s).files (look (fusS s).dir n) fun x => (x.1, x.1.length) } : PS) = FilS (fusS s) f fun y => (y.1, y.1.length) := by
      show ({ fusS s with files := setF s.files (look s.dir n) fun x => (x.1, x.1.length) } : PS) = _
      rw [hf]; rfl
    have hgd2 : Gd (FilS (fusS s) f fun y => (y.1, y.1.length)) := by rw [← hact]; exact hgd
    rw [hact]
    exact syn2_any n hk hD a b x0 x1 hB2 f hf hgd2
  · rintro e w2 ⟨rfl, h2⟩
    have HS : Hid (DoR B w p x (synP s n) _ w2) := hid (DoR.ext ⟨rfl, h2⟩ HE.out HB.out)
    clear h2
    go_wp2
    go_ret
    exact HS.out
set_option maxHeartbeats 1000000 in
theorem del2_any {B : Nat} {w : World} {p : Nat} {x : DX} {s : PS} (n : Nm) (hk : n.length ≤ maxLen) (h : Dk B w p x s) (bd bn : Nat) (hd : Bx w bd (pv p) 25) (hn : Bx w bn (vN n) 9) (hB : B ≤ w.heap.size)
    (hg : Gd (altP ⟨n, [], none⟩ s)) (hl : s.opn.length ≤ 100000) :
    Calls Try.prog 66 #[bp bd, bp bn] w fun e w' => (∃ u, e = .returned u) ∧ Stp B w p x (altP ⟨n, [], none⟩ s) w' := by
  have cn := hn.cell
  have cd := hd.cell
  have hcall := dalt_any ⟨n, [], none⟩ h hk (by simp [maxLen]) hg hB hl
  have HCALL := hid hcall
  clear h hd hn hg hcall
  go_enter Try.func66, Try.ntmps66
  go_wp2_with fail
  refine HCALL.out.mono ?_
  rintro e w2 ⟨⟨u, rfl⟩, h2⟩
  have HS := hid h2
  clear h2 HCALL
  go_wp2
  go_returns
  exact ⟨⟨_, rfl⟩, HS.out⟩
set_option maxHeartbeats 1000000 in
theorem ddelete_any {B : Nat} {w : World} {p : Nat} {x : DX} {s : PS} (n : Nm) (hk : n.length ≤ maxLen) (hl : s.opn.length ≤ 100000) (h : Dk B w p x s) (hB : B ≤ w.heap.size) (hg : Gd (delP s n).2)  :
    Calls Try.prog 31 #[pv p, vN n] w fun e w' => DoR B w p x (delP s n) e w' := by
  have E0 : Ext w (w.alloc (.cells #[pv p] 25 (0, 0))) := Ext.alloc _ _
  have E1 : Ext w ((w.alloc (.cells #[pv p] 25 (0, 0))).alloc (.cells #[vN n] 9 (0, 0))) := E0.trans (Ext.alloc (w.alloc (.cells #[pv p] 25 (0, 0))) _)
  have b0 := (Bx.new w (pv p) 25).ext (Ext.alloc (w.alloc (.cells #[pv p] 25 (0, 0))) (.cells #[vN n] 9 (0, 0)))
  have b1 := Bx.new (w.alloc (.cells #[pv p] 25 (0, 0))) (vN n) 9
  simp only [World.size_alloc] at b1
  have HE := hid E1
  have H := hid (h.ext E1)
  have HG := hid hg
  have HB := hid hB
  obtain ⟨W0, hW0⟩ : ∃ W0, ((w.alloc (.cells #[pv p] 25 (0, 0))).alloc (.cells #[vN n] 9 (0, 0))) = W0 := ⟨_, rfl⟩
  rw [hW0] at HE H b0 b1
  have HB0 := hid b0
  have HB1 := hid b1
  have c0 := b0.cell
  clear h hg E0 b0 E1 b1
  go_enter Try.func31, Try.ntmps31
  go_wp2_with fail
  clear hW0 c0
  obtain ⟨a, ha⟩ : ∃ a, w.heap.size = a := ⟨_, rfl⟩
  rw [ha] at HB0
  rw [ha] at HB1
  rw [ha]
  obtain ⟨b, hb⟩ : ∃ b, a + 1 = b := ⟨_, rfl⟩
  rw [hb] at HB1
  rw [hb]
  have n0 : a ≠ p := fun e => by have := HB0.out; rw [e] at this; have h2 := H.out.hd; unfold Bx at this; rw [this] at h2; simp at h2
  have n1 : b ≠ p := fun e => by have := HB1.out; rw [e] at this; have h2 := H.out.hd; unfold Bx at this; rw [this] at h2; simp at h2
  refine (ddo_any H.out (Nat.le_trans HB.out HE.out.size) 65 66 #[bp a, bp b] #[bp a, bp b] enDelete1 enDelete2 (missP s n) (fun s => { s with opn := s.opn ++ [⟨n, [], none⟩] })
    (fun _ w' k => del1_any n hk (H.out.ext k) a b (HB0.out.ext k) (HB1.out.ext k))
    (fun h1 h2 h3 w' hD hF hbw => ?_)).mono ?_
  · have hdone := doP_done (act := (fun s => { s with opn := s.opn ++ [⟨n, [], none⟩] })) h1 h2 h3
    have hgd : Gd (((fun s => { s with opn := s.opn ++ [⟨n, [], none⟩] })) (fusS s)) := by have := HG.out; unfold delP at this; rw [hdone] at this; exact this
    have hB2 := Nat.le_trans (Nat.le_trans HB.out HE.out.size) hF.size
    have x0 := HB0.out.fr hF (by simpa using n0)
    have x1 := HB1.out.fr hF (by simpa using n1)
    exact del2_any n hk hD a b x0 x1 hB2 hgd hl
  · rintro e w2 ⟨rfl, h2⟩
    have HS : Hid (DoR B w p x (delP s n) _ w2) := hid (DoR.ext ⟨rfl, h2⟩ HE.out HB.out)
    clear h2
    go_wp2
    go_ret
    exact HS.out
set_option maxHeartbeats 1000000 in
theorem ren1_any {B : Nat} {w : World} {p : Nat} {x : DX} {s : PS} (n m : Nm) (hk : n.length ≤ maxLen) (hm : m.length ≤ maxLen) (h : Dk B w p x s) (bd bn bm : Nat) (hd : Bx w bd (pv p) 25) (hn : Bx w bn (vN n) 9) (hbm : Bx w bm (vN m) 9) :
    Calls Try.prog 61 #[bp bd, bp bn, bp bm] w fun e w' => e = .returned (.int .i64 (renE s n m : Nat)) ∧ Ext w w' := by
  have HM := hid hbm
  have cn := hn.cell
  have cd := hd.cell
  obtain ⟨⟨-, d1, -⟩, -⟩ := lk6 h.hd
  have hlk := look_fact h n hk
  clear h hd hn hbm
  cases hf : look s.dir n with
  | none =>
    have HC : Hid (renE s n m = 5) := hid (by unfold renE; rw [if_pos hf])
    rw [hf] at hlk
    simp only [Option.map_none, ptr] at hlk
    clear hf
    go_enter Try.func61, Try.ntmps61
    go_wp2_with fail
    go_quiet (fail)
    clear hlk d1
    go_wp2
    go_ret
    rw [HC.out]
    exact ⟨rfl, Ext.drewN _ _⟩
  | some f =>
    have HF := hid hf
    rw [hf] at hlk
    simp only [Option.map_some, ptr] at hlk
    clear hf
    generalize x.bk f = bf at *
    go_enter Try.func61, Try.ntmps61
    go_wp2_with fail
    go_quiet (fail)
    clear hlk d1 cd cn
    obtain ⟨w2, hw2⟩ : ∃ w2, w.drewN nq = w2 := ⟨_, rfl⟩
    have E2 : Ext w w2 := by rw [← hw2]; exact Ext.drewN _ _
    rw [hw2]
    clear hw2
    have cm := (HM.out.ext E2).cell
    have HE2 := hid E2
    clear E2
    go_wp2_with fail
    refine (dnm_any m w2 hm).mono ?_
    rintro e w3 ⟨rfl, E3⟩
    have HE3 := hid (HE2.out.trans E3)
    clear E3
    cases hok : nmOk m with
    | false =>
      have HC : Hid (renE s n m = 1) := hid (by unfold renE; rw [if_neg (by rw [HF.out]; simp), if_pos hok])
      clear hok
      go_wp2
      go_ret
      rw [HC.out]
      exact ⟨rfl, HE3.out⟩
    | true =>
      have HC : Hid (renE s n m = 0) := hid (by unfold renE; rw [if_neg (by rw [HF.out]; simp), if_neg (by rw [hok]; simp)])
      clear hok
      go_wp2
      go_ret
      rw [HC.out]
      exact ⟨rfl, HE3.out⟩
set_option maxRecDepth 100000 in
set_option maxHeartbeats 1000000 in
theorem ren2_any {B : Nat} {w : World} {p : Nat} {x : DX} {s : PS} (n m : Nm) (hk : n.length ≤ maxLen) (hm : m.length ≤ maxLen) (h : Dk B w p x s) (bd bn bm : Nat) (hd : Bx w bd (pv p) 25) (hn : Bx w bn (vN n) 9) (hbm : Bx w bm (vN m) 9) (hB : B ≤ w.heap.size)
    (f : Nat) (hf : look s.dir n = some f) (hg : Gd (altP ⟨n, m, some f⟩ s)) (hl : s.opn.length ≤ 100000) :
    Calls Try.prog 62 #[bp bd, bp bn, bp bm] w fun e w' => (∃ u, e = .returned u) ∧ Stp B w p x (altP ⟨n, m, some f⟩ s) w' := by
  have H := hid h
  have HG := hid hg
  have HB := hid hB
  have CD := hid hd.cell
  have CN := hid hn.cell
  have CM := hid hbm.cell
  have D1 := hid (lk6 h.hd).1.2.1
  have HF := hid hf
  obtain ⟨bf, hbf⟩ : ∃ bf, x.bk f = bf := ⟨_, rfl⟩
  have HBF := hid hbf
  clear h hd hn hbm hg hB hbf hf
  go_enter Try.func62, Try.ntmps62
  go_wp2_with fail
  refine ParE.wp_region_e (l := [_, _, _, _, _, _, _, _, _, _, _]) rfl (Rg.R1 w 10 (fun w' => Stp B w p x (altP ⟨n, m, some f⟩ s) w')) (ParC.VC [ParC.EQ (pv p), ParC.EQ (vN n), ParC.EQ (vN m), ParC.EQ (pv p), ParC.EQ (pv p), ParC.EQ (Value.pointer (some ⟨p, 1, none⟩)), ParC.EQ (Value.map (some x.md)), ParC.EQ (vN n), ParC.EQ (bp bf), ParC.EQ (Value.agg #[vN n, vN m, bp bf]), (fun _ => True)]) (by kernel_rfl) (by kernel_rfl) (Rg.R1.start) ?_ ?_
  · refine ⟨fun L ρ w' hR hC hL hd hk => ?_, ?_⟩
    · obtain ⟨k0, -⟩ := hk
      have e0 : ρ (.tmp 0) = bp bd := k0
      clear k0
      refine Par.val_k fun K hK => ?_
      unfold Par.val
      (have hx := hR.a (hC.notyet 10 0 hL (by kernel_rfl)); have cc := hx.cell CD.out; go_simp; exact hK _ _ ⟨hR.other (by decide), rfl⟩)
    refine ⟨fun L ρ w' hR hC hL hd hk => ?_, ?_⟩
    · obtain ⟨k0, -⟩ := hk
      have e0 : ρ (.tmp 1) = bp bn := k0
      clear k0
      refine Par.val_k fun K hK => ?_
      unfold Par.val
      (have hx := hR.a (hC.notyet 10 1 hL (by kernel_rfl)); have cc := hx.cell CN.out; go_simp; exact hK _ _ ⟨hR.other (by decide), rfl⟩)
    refine ⟨fun L ρ w' hR hC hL hd hk => ?_, ?_⟩
    · obtain ⟨k0, -⟩ := hk
      have e0 : ρ (.tmp 2) = bp bm := k0
      clear k0
      refine Par.val_k fun K hK => ?_
      unfold Par.val
      (have hx := hR.a (hC.notyet 10 2 hL (by kernel_rfl)); have cc := hx.cell CM.out; go_simp; exact hK _ _ ⟨hR.other (by decide), rfl⟩)
    refine ⟨fun L ρ w' hR hC hL hd hk => ?_, ?_⟩
    · obtain ⟨k0, -⟩ := hk
      have e0 : ρ (.tmp 0) = bp bd := k0
      clear k0
      refine Par.val_k fun K hK => ?_
      unfold Par.val
      (have hx := hR.a (hC.notyet 10 3 hL (by kernel_rfl)); have cc := hx.cell CD.out; go_simp; exact hK _ _ ⟨hR.other (by decide), rfl⟩)
    refine ⟨fun L ρ w' hR hC hL hd hk => ?_, ?_⟩
    · obtain ⟨k0, -⟩ := hk
      have e0 : ρ (.tmp 6) = pv p := k0
      clear k0
      refine Par.val_k fun K hK => ?_
      unfold Par.val
      (go_simp; exact hK _ _ ⟨hR.other (by decide), rfl⟩)
    refine ⟨fun L ρ w' hR hC hL hd hk => ?_, ?_⟩
    · obtain ⟨k0, -⟩ := hk
      have e0 : ρ (.tmp 7) = pv p := k0
      clear k0
      refine Par.val_k fun K hK => ?_
      unfold Par.val
      (go_simp; exact hK _ _ ⟨hR.other (by decide), rfl⟩)
    refine ⟨fun L ρ w' hR hC hL hd hk => ?_, ?_⟩
    · obtain ⟨k0, -⟩ := hk
      have e0 : ρ (.tmp 8) = Value.pointer (some ⟨p, 1, none⟩) := k0
      clear k0
      refine Par.val_k fun K hK => ?_
      unfold Par.val
      (have hx := hR.a (hC.notyet 10 6 hL (by kernel_rfl)); have cc := hx.cell D1.out; go_simp; exact hK _ _ ⟨hR.other (by decide), rfl⟩)
    refine ⟨fun L ρ w' hR hC hL hd hk => ?_, ?_⟩
    · obtain ⟨k0, -⟩ := hk
      have e0 : ρ (.tmp 1) = bp bn := k0
      clear k0
      refine Par.val_k fun K hK => ?_
      unfold Par.val
      (have hx := hR.a (hC.notyet 10 7 hL (by kernel_rfl)); have cc := hx.cell CN.out; go_simp; exact hK _ _ ⟨hR.other (by decide), rfl⟩)
    refine ⟨fun L ρ w' hR hC hL hd hk => ?_, ?_⟩
    · obtain ⟨k0, k1, -⟩ := hk
      have e0 : ρ (.tmp 9) = Value.map (some x.md) := k0
      have e1 : ρ (.tmp 10) = vN n := k1
      clear k0 k1
      refine Par.val_k fun K hK => ?_
      unfold Par.val
      (have hx := hR.a (hC.notyet 10 8 hL (by kernel_rfl)); have hlk := (H.out.ext hx).dr.look n hk; rw [hb_look, HF.out] at hlk; simp only [Option.map_some, HBF.out] at hlk; simp only [ptr] at hlk; go_simp; exact hK _ _ ⟨hR.other (by decide), rfl⟩)
    refine ⟨fun L ρ w' hR hC hL hd hk => ?_, ?_⟩
    · obtain ⟨k0, k1, k2, -⟩ := hk
      have e0 : ρ (.tmp 4) = vN n := k0
      have e1 : ρ (.tmp 5) = vN m := k1
      have e2 : ρ (.tmp 11) = bp bf := k2
      clear k0 k1 k2
      refine Par.val_k fun K hK => ?_
      unfold Par.val
      (go_simp; exact hK _ _ ⟨hR.other (by decide), rfl⟩)
    refine ⟨fun L ρ w' hR hC hL hd hk => ?_, ?_⟩
    · obtain ⟨k0, k1, k2, -⟩ := hk
      have e0 := k0
      have e1 : ρ (.tmp 3) = pv p := k1
      have e2 : ρ (.tmp 12) = Value.agg #[vN n, vN m, bp bf] := k2
      clear k0 k1 k2
      refine Par.val_k fun K hK => ?_
      unfold Par.val
      (have hx := hR.a hL; have hD := H.out.ext hx; have hcall := dalt_any ⟨n, m, some f⟩ hD hk hm HG.out (Nat.le_trans HB.out hx.size) hl; simp only [Option.map_some, HBF.out] at hcall; simp only [ptr] at hcall; refine Par.val_call Try.func50 (by kernel_rfl) rfl e0 ?_; simp only [List.map_toArray, List.map_cons, List.map_nil, e1, e2]; refine hcall.mono ?_; rintro e w2 ⟨⟨u, rfl⟩, q2⟩; exact ⟨_, rfl, hK _ _ ⟨Rg.R1.last (Stp.pre hx HB.out q2), trivial⟩⟩)
    trivial
  intro a' w' inv hR
  have q3 : a'.tmps.getD 3 undef = pv p := inv.done 0 _ 3 rfl rfl rfl
  have q4 : a'.tmps.getD 4 undef = vN n := inv.done 1 _ 4 rfl rfl rfl
  have q5 : a'.tmps.getD 5 undef = vN m := inv.done 2 _ 5 rfl rfl rfl
  have q6 : a'.tmps.getD 6 undef = pv p := inv.done 3 _ 6 rfl rfl rfl
  have q7 : a'.tmps.getD 7 undef = pv p := inv.done 4 _ 7 rfl rfl rfl
  have q8 : a'.tmps.getD 8 undef = Value.pointer (some ⟨p, 1, none⟩) := inv.done 5 _ 8 rfl rfl rfl
  have q9 : a'.tmps.getD 9 undef = Value.map (some x.md) := inv.done 6 _ 9 rfl rfl rfl
  have q10 : a'.tmps.getD 10 undef = vN n := inv.done 7 _ 10 rfl rfl rfl
  have q11 : a'.tmps.getD 11 undef = bp bf := inv.done 8 _ 11 rfl rfl rfl
  have q12 : a'.tmps.getD 12 undef = Value.agg #[vN n, vN m, bp bf] := inv.done 9 _ 12 rfl rfl rfl
  have q13 : (fun _ => True) (a'.tmps.getD 13 undef)  := inv.done 10 _ 13 rfl rfl rfl
  clear inv
  simp only [List.filterMap_cons, List.filterMap_nil, Par.putAll, Act.put, List.setIfInBounds_toArray, List.set_cons_succ, List.set_cons_zero, q3, q4, q5, q6, q7, q8, q9, q10, q11, q12]
  clear q3 q4 q5 q6 q7 q8 q9 q10 q11 q12
  generalize a'.tmps.getD 13 undef = u13 at *
  try clear a'
  have HS := hid (hR.z rfl)
  clear hR
  go_wp2
  go_returns
  exact ⟨⟨_, rfl⟩, HS.out⟩
set_option maxHeartbeats 1000000 in
theorem drename_any {B : Nat} {w : World} {p : Nat} {x : DX} {s : PS} (n m : Nm) (hk : n.length ≤ maxLen) (hm : m.length ≤ maxLen) (hl : s.opn.length ≤ 100000) (h : Dk B w p x s) (hB : B ≤ w.heap.size) (hg : Gd (renP s n m).2)  :
    Calls Try.prog 29 #[pv p, vN n, vN m] w fun e w' => DoR B w p x (renP s n m) e w' := by
  have E0 : Ext w (w.alloc (.cells #[pv p] 25 (0, 0))) := Ext.alloc _ _
  have E1 : Ext w ((w.alloc (.cells #[pv p] 25 (0, 0))).alloc (.cells #[vN n] 9 (0, 0))) := E0.trans (Ext.alloc (w.alloc (.cells #[pv p] 25 (0, 0))) _)
  have E2 : Ext w (((w.alloc (.cells #[pv p] 25 (0, 0))).alloc (.cells #[vN n] 9 (0, 0))).alloc (.cells #[vN m] 9 (0, 0))) := E1.trans (Ext.alloc ((w.alloc (.cells #[pv p] 25 (0, 0))).alloc (.cells #[vN n] 9 (0, 0))) _)
  have b0 := ((Bx.new w (pv p) 25).ext (Ext.alloc (w.alloc (.cells #[pv p] 25 (0, 0))) (.cells #[vN n] 9 (0, 0)))).ext (Ext.alloc ((w.alloc (.cells #[pv p] 25 (0, 0))).alloc (.cells #[vN n] 9 (0, 0))) (.cells #[vN m] 9 (0, 0)))
  have b1 := (Bx.new (w.alloc (.cells #[pv p] 25 (0, 0))) (vN n) 9).ext (Ext.alloc ((w.alloc (.cells #[pv p] 25 (0, 0))).alloc (.cells #[vN n] 9 (0, 0))) (.cells #[vN m] 9 (0, 0)))
  simp only [World.size_alloc] at b1
  have b2 := Bx.new ((w.alloc (.cells #[pv p] 25 (0, 0))).alloc (.cells #[vN n] 9 (0, 0))) (vN m) 9
  simp only [World.size_alloc] at b2
  have HE := hid E2
  have H := hid (h.ext E2)
  have HG := hid hg
  have HB := hid hB
  obtain ⟨W0, hW0⟩ : ∃ W0, (((w.alloc (.cells #[pv p] 25 (0, 0))).alloc (.cells #[vN n] 9 (0, 0))).alloc (.cells #[vN m] 9 (0, 0))) = W0 := ⟨_, rfl⟩
  rw [hW0] at HE H b0 b1 b2
  have HB0 := hid b0
  have HB1 := hid b1
  have HB2 := hid b2
  have c0 := b0.cell
  clear h hg E0 b0 E1 b1 E2 b2
  go_enter Try.func29, Try.ntmps29
  go_wp2_with fail
  clear hW0 c0
  obtain ⟨a, ha⟩ : ∃ a, w.heap.size = a := ⟨_, rfl⟩
  rw [ha] at HB0
  rw [ha] at HB1
  rw [ha] at HB2
  rw [ha]
  obtain ⟨b, hb⟩ : ∃ b, a + 1 = b := ⟨_, rfl⟩
  rw [hb] at HB1
  rw [hb] at HB2
  rw [hb]
  obtain ⟨c, hc⟩ : ∃ c, b + 1 = c := ⟨_, rfl⟩
  rw [hc] at HB2
  rw [hc]
  have n0 : a ≠ p := fun e => by have := HB0.out; rw [e] at this; have h2 := H.out.hd; unfold Bx at this; rw [this] at h2; simp at h2
  have n1 : b ≠ p := fun e => by have := HB1.out; rw [e] at this; have h2 := H.out.hd; unfold Bx at this; rw [this] at h2; simp at h2
  have n2 : c ≠ p := fun e => by have := HB2.out; rw [e] at this; have h2 := H.out.hd; unfold Bx at this; rw [this] at h2; simp at h2
  refine (ddo_any H.out (Nat.le_trans HB.out HE.out.size) 61 62 #[bp a, bp b, bp c] #[bp a, bp b, bp c] enRename1 enRename2 (renE s n m) (fun s => { s with opn := s.opn ++ [⟨n, m, look s.dir n⟩] })
    (fun _ w' k => ren1_any n m hk hm (H.out.ext k) a b c (HB0.out.ext k) (HB1.out.ext k) (HB2.out.ext k))
    (fun h1 h2 h3 w' hD hF hbw => ?_)).mono ?_
  · have hdone := doP_done (act := (fun s => { s with opn := s.opn ++ [⟨n, m, look s.dir n⟩] })) h1 h2 h3
    have hgd : Gd (((fun s => { s with opn := s.opn ++ [⟨n, m, look s.dir n⟩] })) (fusS s)) := by have := HG.out; unfold renP at this; rw [hdone] at this; exact this
    have hB2 := Nat.le_trans (Nat.le_trans HB.out HE.out.size) hF.size
    have x0 := HB0.out.fr hF (by simpa using n0)
    have x1 := HB1.out.fr hF (by simpa using n1)
    have x2 := HB2.out.fr hF (by simpa using n2)
    obtain ⟨f, hf⟩ : ∃ f, look s.dir n = some f := by
      cases hq : look s.dir n with
      | some f => exact ⟨f, rfl⟩
      | none => exact absurd h2 (by unfold renE; rw [if_pos hq]; decide)
    have hact : ({ fusS s with opn := (fusS s).opn ++ [⟨n, m, look (fusS s).dir n⟩] } : PS) = altP ⟨n, m, some f⟩ (fusS s) := by
      show ({ fusS s with opn := (fusS s).opn ++ [⟨n, m, look s.dir n⟩] } : PS) = _
      rw [hf]; rfl
    have hgd2 : Gd (altP ⟨n, m, some f⟩ (fusS s)) := by rw [← hact]; exact hgd
    rw [hact]
    exact ren2_any n m hk hm hD a b c x0 x1 x2 hB2 f hf hgd2 hl
  · rintro e w2 ⟨rfl, h2⟩
    have HS : Hid (DoR B w p x (renP s n m) _ w2) := hid (DoR.ext ⟨rfl, h2⟩ HE.out HB.out)
    clear h2
    go_wp2
    go_ret
    exact HS.out
end Go.Proofs.Ytkaafllbmeppnaa
