/- States for drawn regions: two acts in any order, that turn the world; all others leave it, or make memory.
The document's disk: Append.
The document's disk: Crash.
Both disks in memory; the law's 'own'.
Both disks beside each other, and boxes beside them: what a step of the one, or of the other, leaves. -/
import Derived.Test.YtijpokajhjhllaaGreatDoorDskMB
import Derived.Test.YtijpokajhjhllaaGreatDoorRgC
set_option linter.unusedSimpArgs false
set_option linter.unusedVariables false
namespace Go.Proofs.YtijpokajhjhllaaGreatDoor
open Go Go.RowKit Go.Tum Go.ChangeMaps
open Go.ParB (upd Lof)
open Go.ParE (putS slotsR slots Closed)

/-- Bytes don't lie in the disk's own block. -/
theorem byt_fr {w w' : World} {r : Nat} {x : RX} {s : PS} {u : Value} {b : List UInt8} (hu : Byt w u b) (hb : w.heap[r]? = some (rdiskO x s)) (hvf : ∃ o n c, x.vf = .slice o n c) (hvd : ∃ o n c, x.vd = .slice o n c) (f : Fr [r] w w') : Byt w' u b := by
  obtain ⟨h1, ao, cap, h2, h3, h4, h5, h6⟩ := hu
  refine ⟨h1, ao, cap, h2, h3, h4, h5, fun a ha j y hy => ?_⟩
  have hc := h6 a ha j y hy
  have hy2 : ∃ z : UInt8, y = bv z := by
    obtain ⟨z, -, e⟩ := List.mem_map.1 (List.mem_of_getElem? hy)
    exact ⟨z, e.symm⟩
  obtain ⟨z, rfl⟩ := hy2
  rw [f.cell ?_ (World.block_lt_of_cell? w _ hc)]
  · exact hc
  · intro hm
    have e : (a.add j).block = r := by simpa using hm
    obtain ⟨o1, n1, c1, q1⟩ := hvf
    obtain ⟨o2, n2, c2, q2⟩ := hvd
    unfold World.cell? at hc
    rw [e, hb] at hc
    simp only [rdiskO, q1, q2] at hc
    split at hc
    · cases hc
    · obtain ⟨k, hk⟩ : ∃ k, (a.add j).off = k := ⟨_, rfl⟩
      rw [hk] at hc
      rcases k with _ | _ | _ | _ | _ | k <;> simp at hc
def FilQ2 (W : World) (d0 d1 d2 : Nat) (l l2 : List UInt8) (P : World → Prop) (i : Nat) (σ : Nat → Value) (w' : World) : Prop := (i < 4 → Ext W w') ∧ match i with
  | 1 => Own w' W.heap.size 5 (σ d0) []
  | 2 => Own w' W.heap.size 5 (σ d1) l
  | 3 => Own w' W.heap.size 5 (σ d2) l2
  | 4 => P w'
  | _ => True
set_option maxRecDepth 100000 in
set_option maxHeartbeats 1000000 in
theorem rappend_any {B : Nat} {w : World} {r : Nat} {x : RX} {s : PS} (n : Nm) (b : List UInt8) (u : Value) (h : RD B w r x s) (hu : Byt w u b) (hbl : b.length ≤ 1048576) (hB : B ≤ w.heap.size) (hw : WF s) (hfls : s.files.length ≤ 100000) (hl : s.opn.length ≤ 100000) :
    Calls Tryz.prog 20 #[pv r, vN n, u] w fun e w' => RDo B w r x (appP s n b) e w' := by
  obtain ⟨uo, uc, rfl, huc, hum, -⟩ := hu.open
  have HU := hid hu
  have HFLS := hid hfls
  have HL := hid hl
  have HUL := hid hbl
  obtain ⟨ul, hul⟩ : ∃ k, b.length = k := ⟨_, rfl⟩
  have HULE := hid hul
  rw [hul] at HU ⊢ huc
  clear hu hbl hfls hl hul
  have H := hid h
  have HB := hid hB
  have HFU := hid hw.fu
  have HW := hid hw
  have hdo := doP_can s (appE s n b) (fun s : PS => { s with files := setF s.files (look s.dir n) fun x => (x.1 ++ b, x.2) })
  have hcd := canP_same s (appE s n b)
  have hcn := fun h => canP_ne s (e := appE s n b) h
  have HDO : Hid (appP s n b = if (canP s (appE s n b)).1 = 0 then (0, (fun s : PS => { s with files := setF s.files (look s.dir n) fun x => (x.1 ++ b, x.2) }) (canP s (appE s n b)).2) else canP s (appE s n b)) := hid hdo
  have hfn := findD_neg' (s := s) (n := n)
  obtain ⟨me, hme⟩ : ∃ e, appE s n b = e := ⟨_, rfl⟩
  rw [hme] at HDO hcd hcn
  obtain ⟨C, hC⟩ : ∃ C, canP s me = C := ⟨_, rfl⟩
  rw [hC] at HDO hcd hcn
  have HCC := hid hC
  obtain ⟨er, s1⟩ := C
  dsimp only at HDO hcd hcn
  have HCD := hid hcd
  have HCN := hid hcn
  have HME := hid hme
  clear h hB hw hdo hme hC hcd hcn
  go_enter Tryz.func20, Tryz.ntmps20
  go_wp2_with fail
  refine (rfind_any n H.out).mono ?_
  rintro e w1 ⟨rfl, hE⟩
  have HE1 := hid hE
  have H1 := hid (H.out.ext hE)
  obtain ⟨fd, hfd⟩ : ∃ f, findD s.dir n = f := ⟨_, rfl⟩
  have HFD := hid hfd
  rw [hfd] at hfn ⊢
  clear hfd hE
  by_cases hlk : look s.dir n = none
  · have hneg : decide (fd < 0) = true := by rw [hfn, decide_eq_true hlk]
    obtain rfl : me = 5 := by rw [← HME.out]; unfold appE; rw [if_pos hlk]
    clear hlk hfn
    go_wp2_with fail
    refine (show Calls Tryz.prog 62 #[pv r, .int .i64 (5 : Int)] _ fun e w' => CanP B _ r x (er, s1) e w' from by have := rcan_any 5 H1.out HFU.out; rw [HCC.out] at this; exact this).mono ?_
    rintro e w2 ⟨rfl, h1, f1⟩
    dsimp only at h1 ⊢
    have H2 := hid h1
    have F2 : Hid (Fr [r] w w2) := hid ((Ext.fr HE1.out).trans f1)
    clear h1 f1
    have her : er ≠ 0 := HCN.out (by decide)
    have be : ((er : Int) == 0) = false := by simp; omega
    have HD2 : Hid (appP s n b = (er, s1)) := hid (by rw [HDO.out, if_neg her])
    clear her
    go_wp2
    go_ret
    unfold RDo
    rw [HD2.out]
    exact ⟨rfl, ⟨x, H2.out, Nw.refl _ _⟩, F2.out.mono (by simp)⟩
  have hneg : decide (fd < 0) = false := by rw [hfn, decide_eq_false hlk]
  have hfd2 : ∃ f : Nat, look s.dir n = some f ∧ fd = (f : Int) := by
    have h1 := HFD.out
    unfold findD at h1
    cases hlo : look s.dir n with
    | none => exact absurd hlo hlk
    | some f => rw [hlo] at h1; exact ⟨f, rfl, h1.symm⟩
  obtain ⟨f, hf1, rfl⟩ := hfd2
  have HF1 := hid hf1
  have hfl : f < s.files.length := HW.out.lt f (look_cnt HW.out hf1)
  have HFLT := hid hfl
  clear hlk hfn hf1 hfl
  obtain ⟨hh, hhe⟩ : ∃ k, held s = k := ⟨_, rfl⟩
  have HHE := hid hhe
  obtain ⟨rm, hrm⟩ : ∃ k, s.room = k := ⟨_, rfl⟩
  have HRM := hid hrm
  have hrb : rm ≤ 1048576 := by rw [← hrm]; exact HW.out.rm
  have hhb : hh ≤ 1048576 := by rw [← hhe]; have := HW.out.hd; have := HW.out.rm; omega
  have hulb : ul ≤ 1048576 := by rw [← HULE.out]; exact HUL.out
  obtain ⟨⟨c0, -, -, -, -⟩, -⟩ := lk5 H1.out.hd
  rw [hrm] at c0
  have C0 := hid c0
  clear hhe hrm c0
  have hfull : ∀ c : Bool, decide (rm < hh + ul) = c → decide ((rm : Int) < (hh : Int) + (ul : Int)) = c := by intro c hc; rw [← hc]; simp; omega
  have HME2 : Hid (me = if rm < hh + ul then 4 else 0) := hid (by rw [← HME.out, ← HRM.out, ← HHE.out, ← HULE.out]; unfold appE; rw [HF1.out]; rfl)
  by_cases hgt : rm < hh + ul
  · have e1 := hfull true (by simpa using hgt)
    obtain rfl : me = 4 := by rw [HME2.out, if_pos hgt]
    clear hgt hfull
    go_wp2_with fail
    refine ParE.wp_region_e (l := [_, _, _, _, _, _, _, _, _, _]) rfl (Rg.Ch [] [] (fun _ _ w' => Ext w1 w')) (ParC.VC [ParC.EQ (pv r), ParC.EQ (Value.int IntKind.i64 (hh : Int)), ParC.EQ (Value.slice uo ul uc), ParC.EQ (Value.int IntKind.i64 (ul : Int)), ParC.EQ (Value.int IntKind.i64 ((hh : Int) + (ul : Int))), ParC.EQ (pv r), ParC.EQ (pv r), ParC.EQ (Value.pointer (some ⟨r, 0, none⟩)), ParC.EQ (Value.int IntKind.i64 (rm : Int)), ParC.EQ (Value.bool true)]) (by kernel_rfl) (by kernel_rfl) (Rg.Ch.start (Ext.draw _)) ?_ ?_
    · refine ⟨fun L ρ w' hR hC hL hd hk => ?_, ?_⟩
      · exact Par.val_of_run rfl ⟨hR.other (by decide), hk.1⟩
      refine ⟨fun L ρ w' hR hC hL hd hk => ?_, ?_⟩
      · obtain ⟨k0, k1, -⟩ := hk
        have e0 := k0
        have e1 : ρ (.tmp 14) = pv r := k1
        clear k0 k1
        refine Par.val_k fun K hK => ?_
        unfold Par.val
        (obtain ⟨i, -, -, hx⟩ := hR.ex; refine Par.val_call Tryz.func31 (by kernel_rfl) rfl e0 ?_; simp only [List.map_toArray, List.map_cons, List.map_nil, e1]; refine (rheld_any (H1.out.ext hx) HW.out HFLS.out HL.out).mono ?_; rintro e w2 ⟨rfl, rfl⟩; exact ⟨_, rfl, hK _ _ ⟨hR.other (by decide), by rw [HHE.out]; rfl⟩⟩)
      refine ⟨fun L ρ w' hR hC hL hd hk => ?_, ?_⟩
      · exact Par.val_of_run rfl ⟨hR.other (by decide), hk.1⟩
      refine ⟨fun L ρ w' hR hC hL hd hk => ?_, ?_⟩
      · obtain ⟨k0, -⟩ := hk
        have e0 : ρ (.tmp 16) = Value.slice uo ul uc := k0
        clear k0
        refine Par.val_k fun K hK => ?_
        unfold Par.val
        (go_simp; exact hK _ _ ⟨hR.other (by decide), rfl⟩)
      refine ⟨fun L ρ w' hR hC hL hd hk => ?_, ?_⟩
      · obtain ⟨k0, k1, -⟩ := hk
        have e0 : ρ (.tmp 15) = Value.int IntKind.i64 (hh : Int) := k0
        have e1 : ρ (.tmp 17) = Value.int IntKind.i64 (ul : Int) := k1
        clear k0 k1
        refine Par.val_k fun K hK => ?_
        unfold Par.val
        (have hwr : IntKind.i64.wrap ((hh : Int) + (ul : Int)) = (hh : Int) + (ul : Int) := IntWalk.i64_in _ (by omega); go_simp; exact hK _ _ ⟨hR.other (by decide), rfl⟩)
      refine ⟨fun L ρ w' hR hC hL hd hk => ?_, ?_⟩
      · exact Par.val_of_run rfl ⟨hR.other (by decide), hk.1⟩
      refine ⟨fun L ρ w' hR hC hL hd hk => ?_, ?_⟩
      · obtain ⟨k0, -⟩ := hk
        have e0 : ρ (.tmp 19) = pv r := k0
        clear k0
        refine Par.val_k fun K hK => ?_
        unfold Par.val
        (go_simp; exact hK _ _ ⟨hR.other (by decide), rfl⟩)
      refine ⟨fun L ρ w' hR hC hL hd hk => ?_, ?_⟩
      · obtain ⟨k0, -⟩ := hk
        have e0 : ρ (.tmp 20) = pv r := k0
        clear k0
        refine Par.val_k fun K hK => ?_
        unfold Par.val
        (go_simp; exact hK _ _ ⟨hR.other (by decide), rfl⟩)
      refine ⟨fun L ρ w' hR hC hL hd hk => ?_, ?_⟩
      · obtain ⟨k0, -⟩ := hk
        have e0 : ρ (.tmp 21) = Value.pointer (some ⟨r, 0, none⟩) := k0
        clear k0
        refine Par.val_k fun K hK => ?_
        unfold Par.val
        (obtain ⟨i, -, -, hx⟩ := hR.ex; have cc := hx.cell C0.out; go_simp; exact hK _ _ ⟨hR.other (by decide), rfl⟩)
      refine ⟨fun L ρ w' hR hC hL hd hk => ?_, ?_⟩
      · obtain ⟨k0, k1, -⟩ := hk
        have e0 : ρ (.tmp 18) = Value.int IntKind.i64 ((hh : Int) + (ul : Int)) := k0
        have e1 : ρ (.tmp 22) = Value.int IntKind.i64 (rm : Int) := k1
        clear k0 k1
        refine Par.val_k fun K hK => ?_
        unfold Par.val
        (go_simp; exact hK _ _ ⟨hR.other (by decide), rfl⟩)
      trivial
    intro a' w' inv hR
    have q14 : a'.tmps.getD 14 undef = pv r := inv.done 0 _ 14 rfl rfl rfl
    have q15 : a'.tmps.getD 15 undef = Value.int IntKind.i64 (hh : Int) := inv.done 1 _ 15 rfl rfl rfl
    have q16 : a'.tmps.getD 16 undef = Value.slice uo ul uc := inv.done 2 _ 16 rfl rfl rfl
    have q17 : a'.tmps.getD 17 undef = Value.int IntKind.i64 (ul : Int) := inv.done 3 _ 17 rfl rfl rfl
    have q18 : a'.tmps.getD 18 undef = Value.int IntKind.i64 ((hh : Int) + (ul : Int)) := inv.done 4 _ 18 rfl rfl rfl
    have q19 : a'.tmps.getD 19 undef = pv r := inv.done 5 _ 19 rfl rfl rfl
    have q20 : a'.tmps.getD 20 undef = pv r := inv.done 6 _ 20 rfl rfl rfl
    have q21 : a'.tmps.getD 21 undef = Value.pointer (some ⟨r, 0, none⟩) := inv.done 7 _ 21 rfl rfl rfl
    have q22 : a'.tmps.getD 22 undef = Value.int IntKind.i64 (rm : Int) := inv.done 8 _ 22 rfl rfl rfl
    have q23 : a'.tmps.getD 23 undef = Value.bool true := inv.done 9 _ 23 rfl rfl rfl
    clear inv
    simp only [List.filterMap_cons, List.filterMap_nil, Par.putAll, Act.put, List.setIfInBounds_toArray, List.set_cons_succ, List.set_cons_zero, q14, q15, q16, q17, q18, q19, q20, q21, q22, q23]
    clear q14 q15 q16 q17 q18 q19 q20 q21 q22 q23
    obtain ⟨_, -, -, hx9⟩ := hR.ex; replace HE1 := hid (HE1.out.trans hx9); replace H1 := hid (H1.out.ext hx9); clear hx9 hR
    try clear a'
    go_wp2_with fail
    clear hneg e1
    refine (show Calls Tryz.prog 62 #[pv r, .int .i64 (4 : Int)] _ fun e w' => CanP B _ r x (er, s1) e w' from by have := rcan_any 4 H1.out HFU.out; rw [HCC.out] at this; exact this).mono ?_
    rintro e w2 ⟨rfl, h1, f1⟩
    dsimp only at h1 ⊢
    have H2 := hid h1
    have F2 : Hid (Fr [r] w w2) := hid ((Ext.fr HE1.out).trans f1)
    clear h1 f1
    have her : er ≠ 0 := HCN.out (by decide)
    have be : ((er : Int) == 0) = false := by simp; omega
    have HD2 : Hid (appP s n b = (er, s1)) := hid (by rw [HDO.out, if_neg her])
    clear her
    go_wp2
    go_ret
    unfold RDo
    rw [HD2.out]
    exact ⟨rfl, ⟨x, H2.out, Nw.refl _ _⟩, F2.out.mono (by simp)⟩
  have e1 := hfull false (by simpa using hgt)
  obtain rfl : me = 0 := by rw [HME2.out, if_neg hgt]
  clear hgt hfull
  go_wp2_with fail
  refine ParE.wp_region_e (l := [_, _, _, _, _, _, _, _, _, _]) rfl (Rg.Ch [] [] (fun _ _ w' => Ext w1 w')) (ParC.VC [ParC.EQ (pv r), ParC.EQ (Value.int IntKind.i64 (hh : Int)), ParC.EQ (Value.slice uo ul uc), ParC.EQ (Value.int IntKind.i64 (ul : Int)), ParC.EQ (Value.int IntKind.i64 ((hh : Int) + (ul : Int))), ParC.EQ (pv r), ParC.EQ (pv r), ParC.EQ (Value.pointer (some ⟨r, 0, none⟩)), ParC.EQ (Value.int IntKind.i64 (rm : Int)), ParC.EQ (Value.bool false)]) (by kernel_rfl) (by kernel_rfl) (Rg.Ch.start (Ext.draw _)) ?_ ?_
  · refine ⟨fun L ρ w' hR hC hL hd hk => ?_, ?_⟩
    · exact Par.val_of_run rfl ⟨hR.other (by decide), hk.1⟩
    refine ⟨fun L ρ w' hR hC hL hd hk => ?_, ?_⟩
    · obtain ⟨k0, k1, -⟩ := hk
      have e0 := k0
      have e1 : ρ (.tmp 14) = pv r := k1
      clear k0 k1
      refine Par.val_k fun K hK => ?_
      unfold Par.val
      (obtain ⟨i, -, -, hx⟩ := hR.ex; refine Par.val_call Tryz.func31 (by kernel_rfl) rfl e0 ?_; simp only [List.map_toArray, List.map_cons, List.map_nil, e1]; refine (rheld_any (H1.out.ext hx) HW.out HFLS.out HL.out).mono ?_; rintro e w2 ⟨rfl, rfl⟩; exact ⟨_, rfl, hK _ _ ⟨hR.other (by decide), by rw [HHE.out]; rfl⟩⟩)
    refine ⟨fun L ρ w' hR hC hL hd hk => ?_, ?_⟩
    · exact Par.val_of_run rfl ⟨hR.other (by decide), hk.1⟩
    refine ⟨fun L ρ w' hR hC hL hd hk => ?_, ?_⟩
    · obtain ⟨k0, -⟩ := hk
      have e0 : ρ (.tmp 16) = Value.slice uo ul uc := k0
      clear k0
      refine Par.val_k fun K hK => ?_
      unfold Par.val
      (go_simp; exact hK _ _ ⟨hR.other (by decide), rfl⟩)
    refine ⟨fun L ρ w' hR hC hL hd hk => ?_, ?_⟩
    · obtain ⟨k0, k1, -⟩ := hk
      have e0 : ρ (.tmp 15) = Value.int IntKind.i64 (hh : Int) := k0
      have e1 : ρ (.tmp 17) = Value.int IntKind.i64 (ul : Int) := k1
      clear k0 k1
      refine Par.val_k fun K hK => ?_
      unfold Par.val
      (have hwr : IntKind.i64.wrap ((hh : Int) + (ul : Int)) = (hh : Int) + (ul : Int) := IntWalk.i64_in _ (by omega); go_simp; exact hK _ _ ⟨hR.other (by decide), rfl⟩)
    refine ⟨fun L ρ w' hR hC hL hd hk => ?_, ?_⟩
    · exact Par.val_of_run rfl ⟨hR.other (by decide), hk.1⟩
    refine ⟨fun L ρ w' hR hC hL hd hk => ?_, ?_⟩
    · obtain ⟨k0, -⟩ := hk
      have e0 : ρ (.tmp 19) = pv r := k0
      clear k0
      refine Par.val_k fun K hK => ?_
      unfold Par.val
      (go_simp; exact hK _ _ ⟨hR.other (by decide), rfl⟩)
    refine ⟨fun L ρ w' hR hC hL hd hk => ?_, ?_⟩
    · obtain ⟨k0, -⟩ := hk
      have e0 : ρ (.tmp 20) = pv r := k0
      clear k0
      refine Par.val_k fun K hK => ?_
      unfold Par.val
      (go_simp; exact hK _ _ ⟨hR.other (by decide), rfl⟩)
    refine ⟨fun L ρ w' hR hC hL hd hk => ?_, ?_⟩
    · obtain ⟨k0, -⟩ := hk
      have e0 : ρ (.tmp 21) = Value.pointer (some ⟨r, 0, none⟩) := k0
      clear k0
      refine Par.val_k fun K hK => ?_
      unfold Par.val
      (obtain ⟨i, -, -, hx⟩ := hR.ex; have cc := hx.cell C0.out; go_simp; exact hK _ _ ⟨hR.other (by decide), rfl⟩)
    refine ⟨fun L ρ w' hR hC hL hd hk => ?_, ?_⟩
    · obtain ⟨k0, k1, -⟩ := hk
      have e0 : ρ (.tmp 18) = Value.int IntKind.i64 ((hh : Int) + (ul : Int)) := k0
      have e1 : ρ (.tmp 22) = Value.int IntKind.i64 (rm : Int) := k1
      clear k0 k1
      refine Par.val_k fun K hK => ?_
      unfold Par.val
      (go_simp; exact hK _ _ ⟨hR.other (by decide), rfl⟩)
    trivial
  intro a' w' inv hR
  have q14 : a'.tmps.getD 14 undef = pv r := inv.done 0 _ 14 rfl rfl rfl
  have q15 : a'.tmps.getD 15 undef = Value.int IntKind.i64 (hh : Int) := inv.done 1 _ 15 rfl rfl rfl
  have q16 : a'.tmps.getD 16 undef = Value.slice uo ul uc := inv.done 2 _ 16 rfl rfl rfl
  have q17 : a'.tmps.getD 17 undef = Value.int IntKind.i64 (ul : Int) := inv.done 3 _ 17 rfl rfl rfl
  have q18 : a'.tmps.getD 18 undef = Value.int IntKind.i64 ((hh : Int) + (ul : Int)) := inv.done 4 _ 18 rfl rfl rfl
  have q19 : a'.tmps.getD 19 undef = pv r := inv.done 5 _ 19 rfl rfl rfl
  have q20 : a'.tmps.getD 20 undef = pv r := inv.done 6 _ 20 rfl rfl rfl
  have q21 : a'.tmps.getD 21 undef = Value.pointer (some ⟨r, 0, none⟩) := inv.done 7 _ 21 rfl rfl rfl
  have q22 : a'.tmps.getD 22 undef = Value.int IntKind.i64 (rm : Int) := inv.done 8 _ 22 rfl rfl rfl
  have q23 : a'.tmps.getD 23 undef = Value.bool false := inv.done 9 _ 23 rfl rfl rfl
  clear inv
  simp only [List.filterMap_cons, List.filterMap_nil, Par.putAll, Act.put, List.setIfInBounds_toArray, List.set_cons_succ, List.set_cons_zero, q14, q15, q16, q17, q18, q19, q20, q21, q22, q23]
  clear q14 q15 q16 q17 q18 q19 q20 q21 q22 q23
  obtain ⟨_, -, -, hx9⟩ := hR.ex; replace HE1 := hid (HE1.out.trans hx9); replace H1 := hid (H1.out.ext hx9); clear hx9 hR
  try clear a'
  go_wp2_with fail
  clear hneg e1
  refine (show Calls Tryz.prog 62 #[pv r, .int .i64 (0 : Int)] _ fun e w' => CanP B _ r x (er, s1) e w' from by have := rcan_any 0 H1.out HFU.out; rw [HCC.out] at this; exact this).mono ?_
  rintro e w2 ⟨rfl, h1, f1⟩
  dsimp only at h1 ⊢
  have H2 := hid h1
  have F2 : Hid (Fr [r] w w2) := hid ((Ext.fr HE1.out).trans f1)
  clear h1 f1
  by_cases her : er = 0
  case neg =>
    have be : ((er : Int) == 0) = false := by simp; omega
    have HD2 : Hid (appP s n b = (er, s1)) := hid (by rw [HDO.out, if_neg her])
    clear her
    go_wp2
    go_ret
    unfold RDo
    rw [HD2.out]
    exact ⟨rfl, ⟨x, H2.out, Nw.refl _ _⟩, F2.out.mono (by simp)⟩
  subst her
  have hfs : s1.files = s.files := HCD.out.2.2.1
  have hfl1 : f < s1.files.length := by rw [hfs]; exact HFLT.out
  obtain ⟨a, fcap, g, hvf, hag, hle, hmx, hfc⟩ := H2.out.fc hfl1
  have hfb := H2.out.fb f hfl1
  obtain ⟨bs, hbs⟩ : ∃ b, s1.files[f].1 = b := ⟨_, rfl⟩
  obtain ⟨ks, hks⟩ : ∃ k, s1.files[f].2 = k := ⟨_, rfl⟩
  rw [hbs] at hfb
  rw [hks] at hfc
  have HBS := hid (And.intro hbs hks)
  have HBL : Hid (ks ≤ bs.length ∧ bs.length ≤ 1048576) := hid (by rw [← hbs, ← hks]; exact HW.out.fl _ (by rw [← hfs]; exact List.getElem_mem hfl1))
  obtain ⟨bl, hbl⟩ : ∃ k, bs.length = k := ⟨_, rfl⟩
  have HBLE := hid hbl
  obtain ⟨fo, fcc, hfv⟩ : ∃ o c, x.fv.getD f nilV = .slice o bl c := by obtain ⟨o, c, e⟩ := row_shape hfb; exact ⟨o, c, by rw [e, hbl]⟩
  rw [hfv] at hfc hfb
  have hfcc : bl ≤ fcc ∧ fcc ≤ 9223372036854775807 := by obtain ⟨ao, cap, e, k1, k2, -⟩ := hfb.byt.open; cases e; rw [hbl] at k1; exact ⟨k1, k2⟩
  have HFV := hid hfv
  have HOW := hid hfb
  have HVF := hid hvf
  have HAG := hid hag
  have HFC := hid hfc
  have HFL1 := hid hfl1
  obtain ⟨nf, hnf⟩ : ∃ k, s1.files.length = k := ⟨_, rfl⟩
  have HNF := hid hnf
  rw [hnf] at hfl1 hle hvf
  have hfi : (f : Int) < nf := by omega
  obtain ⟨⟨-, c1, -, -, -⟩, -⟩ := lk5 H2.out.hd
  rw [hvf] at c1
  have C1 := hid c1
  have hblb : bl ≤ 1048576 := by rw [← hbl]; exact HBL.out.2
  clear c1 hfb hbs hks hbl hfv hvf hag hfc hnf
  have HD2 : Hid (appP s n b = (0, ({ s1 with files := s1.files.set f (bs ++ b, ks) } : PS))) := hid (by
    rw [HDO.out, if_pos rfl]
    have e1 : look s1.dir n = some f := by rw [HCD.out.1]; exact HF1.out
    simp only [e1, setF]
    rw [modify_set _ _ HFL1.out, HBS.out.1, HBS.out.2])
  have HBB := hid hblb
  have HUB := hid hulb
  have HU3 : Hid (Byt w2 (.slice uo ul uc) b) := hid (byt_fr HU.out H.out.hd (by obtain ⟨o, c, e⟩ := row_slN H.out.fr; exact ⟨_, _, _, e⟩) (by obtain ⟨o, c, e⟩ := row_slN H.out.dr; exact ⟨_, _, _, e⟩) F2.out)
  clear hfs
  go_wp2_with fail
  refine ParE.wp_region_e (l := [_, _, _, _, _, _, _, _, _, _, _, _, _, _, _, _, _, _, _, _]) rfl (Rg.Ch [5, 14, 16, 19] [34, 43, 45] (FilQ2 w2 34 43 45 bs (bs ++ b) fun w' => ∃ v, RD B w' r { x with fv := x.fv.set f v } ({ s1 with files := s1.files.set f (bs ++ b, ks) } : PS) ∧ (∀ q ∈ oB v, w2.heap.size ≤ q) ∧ Fr (r :: oB x.vf) w2 w')) (ParC.VC [ParC.EQ (pv r), ParC.EQ (pv r), ParC.EQ (Value.pointer (some ⟨r, 1, none⟩)), ParC.EQ (Value.slice (some a) nf fcap), ParC.EQ (Value.int IntKind.i64 (f : Int)), (fun _ => True), ParC.EQ (pv r), ParC.EQ (pv r), ParC.EQ (Value.pointer (some ⟨r, 1, none⟩)), ParC.EQ (Value.slice (some a) nf fcap), ParC.EQ (Value.int IntKind.i64 (f : Int)), ParC.EQ (Value.pointer (some (a.add (f * 2)))), ParC.EQ (Value.pointer (some (a.add (f * 2)))), ParC.EQ (Value.slice fo bl fcc), (fun _ => True), ParC.EQ (Value.slice uo ul uc), (fun _ => True), ParC.EQ (Value.pointer (some (a.add (f * 2)))), ParC.EQ (Value.pointer (some (a.add (f * 2)))), fun _ => True]) (by kernel_rfl) (by kernel_rfl) (Rg.Ch.start ⟨fun _ => Ext.draw _, trivial⟩) ?_ ?_
  · refine ⟨fun L ρ w' hR hC hL hd hk => ?_, ?_⟩
    · exact Par.val_of_run rfl ⟨hR.other (by decide), hk.1⟩
    refine ⟨fun L ρ w' hR hC hL hd hk => ?_, ?_⟩
    · obtain ⟨k0, -⟩ := hk
      have e0 : ρ (.tmp 29) = pv r := k0
      clear k0
      refine Par.val_k fun K hK => ?_
      unfold Par.val
      (go_simp; exact hK _ _ ⟨hR.other (by decide), rfl⟩)
    refine ⟨fun L ρ w' hR hC hL hd hk => ?_, ?_⟩
    · obtain ⟨k0, -⟩ := hk
      have e0 : ρ (.tmp 30) = pv r := k0
      clear k0
      refine Par.val_k fun K hK => ?_
      unfold Par.val
      (go_simp; exact hK _ _ ⟨hR.other (by decide), rfl⟩)
    refine ⟨fun L ρ w' hR hC hL hd hk => ?_, ?_⟩
    · obtain ⟨k0, -⟩ := hk
      have e0 : ρ (.tmp 31) = Value.pointer (some ⟨r, 1, none⟩) := k0
      clear k0
      refine Par.val_k fun K hK => ?_
      unfold Par.val
      (obtain ⟨i, hi, hq⟩ := hR.some 3 rfl (hC.notyet 19 3 hL (by kernel_rfl)); have cc := (hq.1 (by omega)).cell C1.out; go_simp; exact hK _ _ ⟨hR.other (by decide), rfl⟩)
    refine ⟨fun L ρ w' hR hC hL hd hk => ?_, ?_⟩
    · exact Par.val_of_run rfl ⟨hR.other (by decide), hk.1⟩
    refine ⟨fun L ρ w' hR hC hL hd hk => ?_, ?_⟩
    · obtain ⟨-⟩ := hk
      skip
      refine Par.val_k fun K hK => ?_
      unfold Par.val
      (obtain ⟨hq, hs⟩ := hR.go 0 rfl hL (.inl rfl) (by decide); have hx := hq.1 (by decide); go_simp; exact hK _ _ ⟨hs _ _ _ ⟨fun _ => hx.trans (Ext.alloc _ _), owns_mono (World.ownsRow_lit (base := w'.heap.size) w' #[] 0 (Nat.le_refl _) (by simp [maxLen]) (by simp)) hx.size⟩, trivial⟩)
    refine ⟨fun L ρ w' hR hC hL hd hk => ?_, ?_⟩
    · exact Par.val_of_run rfl ⟨hR.other (by decide), hk.1⟩
    refine ⟨fun L ρ w' hR hC hL hd hk => ?_, ?_⟩
    · obtain ⟨k0, -⟩ := hk
      have e0 : ρ (.tmp 35) = pv r := k0
      clear k0
      refine Par.val_k fun K hK => ?_
      unfold Par.val
      (go_simp; exact hK _ _ ⟨hR.other (by decide), rfl⟩)
    refine ⟨fun L ρ w' hR hC hL hd hk => ?_, ?_⟩
    · obtain ⟨k0, -⟩ := hk
      have e0 : ρ (.tmp 36) = pv r := k0
      clear k0
      refine Par.val_k fun K hK => ?_
      unfold Par.val
      (go_simp; exact hK _ _ ⟨hR.other (by decide), rfl⟩)
    refine ⟨fun L ρ w' hR hC hL hd hk => ?_, ?_⟩
    · obtain ⟨k0, -⟩ := hk
      have e0 : ρ (.tmp 37) = Value.pointer (some ⟨r, 1, none⟩) := k0
      clear k0
      refine Par.val_k fun K hK => ?_
      unfold Par.val
      (obtain ⟨i, hi, hq⟩ := hR.some 3 rfl (hC.notyet 19 9 hL (by kernel_rfl)); have cc := (hq.1 (by omega)).cell C1.out; go_simp; exact hK _ _ ⟨hR.other (by decide), rfl⟩)
    refine ⟨fun L ρ w' hR hC hL hd hk => ?_, ?_⟩
    · exact Par.val_of_run rfl ⟨hR.other (by decide), hk.1⟩
    refine ⟨fun L ρ w' hR hC hL hd hk => ?_, ?_⟩
    · obtain ⟨k0, k1, -⟩ := hk
      have e0 : ρ (.tmp 38) = Value.slice (some a) nf fcap := k0
      have e1 : ρ (.tmp 39) = Value.int IntKind.i64 (f : Int) := k1
      clear k0 k1
      refine Par.val_k fun K hK => ?_
      unfold Par.val
      (go_simp; exact hK _ _ ⟨hR.other (by decide), rfl⟩)
    refine ⟨fun L ρ w' hR hC hL hd hk => ?_, ?_⟩
    · obtain ⟨k0, -⟩ := hk
      have e0 : ρ (.tmp 40) = Value.pointer (some (a.add (f * 2))) := k0
      clear k0
      refine Par.val_k fun K hK => ?_
      unfold Par.val
      (go_simp; exact hK _ _ ⟨hR.other (by decide), rfl⟩)
    refine ⟨fun L ρ w' hR hC hL hd hk => ?_, ?_⟩
    · obtain ⟨k0, -⟩ := hk
      have e0 : ρ (.tmp 41) = Value.pointer (some (a.add (f * 2))) := k0
      clear k0
      refine Par.val_k fun K hK => ?_
      unfold Par.val
      (obtain ⟨i, hi, hq⟩ := hR.some 3 rfl (hC.notyet 19 13 hL (by kernel_rfl)); have cc := (HFC.out.ext (hq.1 (by omega))).c0; go_simp; exact hK _ _ ⟨hR.other (by decide), rfl⟩)
    refine ⟨fun L ρ w' hR hC hL hd hk => ?_, ?_⟩
    · obtain ⟨k0, k1, -⟩ := hk
      have e0 : (fun _ => True) (ρ (.tmp 34))  := k0
      have e1 : ρ (.tmp 42) = Value.slice fo bl fcc := k1
      clear k0 k1
      refine Par.val_k fun K hK => ?_
      unfold Par.val
      (obtain ⟨hq, hs⟩ := hR.go 1 rfl hL (.inr ⟨5, rfl, hC.before 5 (i := 14) rfl hd (by kernel_rfl)⟩) (by decide); have hx := hq.1 (by decide); have ho : Own w' w2.heap.size 5 (ρ (.tmp 34)) [] := hq.2; obtain ⟨v', w3, r1, r2, r3⟩ := run_app_b w2 37 hx ho (HOW.out.byt.ext hx) (by rw [HBLE.out]; have := HBB.out; simp; omega); rw [← e1] at r1; have r2' : Own w3 w2.heap.size 5 v' bs := (by simpa using r2); exact Par.val_append r1 (hK _ _ ⟨hs _ _ _ ⟨fun _ => r3, r2'⟩, trivial⟩))
    refine ⟨fun L ρ w' hR hC hL hd hk => ?_, ?_⟩
    · exact Par.val_of_run rfl ⟨hR.other (by decide), hk.1⟩
    refine ⟨fun L ρ w' hR hC hL hd hk => ?_, ?_⟩
    · obtain ⟨k0, k1, -⟩ := hk
      have e0 : (fun _ => True) (ρ (.tmp 43))  := k0
      have e1 : ρ (.tmp 44) = Value.slice uo ul uc := k1
      clear k0 k1
      refine Par.val_k fun K hK => ?_
      unfold Par.val
      (obtain ⟨hq, hs⟩ := hR.go 2 rfl hL (.inr ⟨14, rfl, hC.before 14 (i := 16) rfl hd (by kernel_rfl)⟩) (by decide); have hx := hq.1 (by decide); have ho : Own w' w2.heap.size 5 (ρ (.tmp 43)) bs := hq.2; obtain ⟨v', w3, r1, r2, r3⟩ := run_app_b w2 37 hx ho (HU3.out.ext hx) (by rw [HBLE.out, HULE.out]; have := HBB.out; have := HUB.out; omega); rw [← e1] at r1; exact Par.val_append r1 (hK _ _ ⟨hs _ _ _ ⟨fun _ => r3, r2⟩, trivial⟩))
    refine ⟨fun L ρ w' hR hC hL hd hk => ?_, ?_⟩
    · obtain ⟨k0, k1, -⟩ := hk
      have e0 : ρ (.tmp 32) = Value.slice (some a) nf fcap := k0
      have e1 : ρ (.tmp 33) = Value.int IntKind.i64 (f : Int) := k1
      clear k0 k1
      refine Par.val_k fun K hK => ?_
      unfold Par.val
      (go_simp; exact hK _ _ ⟨hR.other (by decide), rfl⟩)
    refine ⟨fun L ρ w' hR hC hL hd hk => ?_, ?_⟩
    · obtain ⟨k0, -⟩ := hk
      have e0 : ρ (.tmp 46) = Value.pointer (some (a.add (f * 2))) := k0
      clear k0
      refine Par.val_k fun K hK => ?_
      unfold Par.val
      (go_simp; exact hK _ _ ⟨hR.other (by decide), rfl⟩)
    refine ⟨fun L ρ w' hR hC hL hd hk => ?_, ?_⟩
    · obtain ⟨k0, k1, -⟩ := hk
      have e0 : ρ (.tmp 47) = Value.pointer (some (a.add (f * 2))) := k0
      have e1 : (fun _ => True) (ρ (.tmp 45))  := k1
      clear k0 k1
      refine Par.val_k fun K hK => ?_
      unfold Par.val
      (obtain ⟨hq, hs⟩ := hR.go 3 rfl hL (.inr ⟨16, rfl, hC.before 16 (i := 19) rfl hd (by kernel_rfl)⟩) (by decide); have hx := hq.1 (by decide); have ho : Own w' w2.heap.size 5 (ρ (.tmp 45)) (bs ++ b) := hq.2; have hfc := HFC.out.ext hx; have cc := hfc.c0; have ff := hfc.f0; obtain ⟨o6, c6, h6⟩ := row_slN ho; obtain ⟨n6, hn6⟩ : ∃ k, (bs ++ b).length = k := ⟨_, rfl⟩; rw [hn6] at h6; have e4 : ρ (.tmp 45) = .slice o6 n6 c6 := h6; have hres := hid ((H2.out.ext hx).set0 HFL1.out (HVF.out.trans (by rw [HAG.out])) (bs ++ b) (.slice o6 n6 c6) (by rw [← e4]; exact owns_mono ho (Nat.le_trans HB.out F2.out.size))); have hadr : Hid (a.add (f * 2) = ⟨g, f * 2, none⟩) := hid (by rw [HAG.out, addr0]); clear hfc hn6; go_simp; rw [hadr.out]; exact hK _ _ ⟨hs none _ _ ⟨fun h => absurd h (by decide), _, by have := hres.out; rw [HBS.out.2] at this; exact ⟨this.1, (by rw [← e4]; exact row_lo ho), (Ext.fr hx).trans this.2⟩⟩, trivial⟩)
    trivial
  intro a' w' inv hR
  have q29 : a'.tmps.getD 29 undef = pv r := inv.done 0 _ 29 rfl rfl rfl
  have q30 : a'.tmps.getD 30 undef = pv r := inv.done 1 _ 30 rfl rfl rfl
  have q31 : a'.tmps.getD 31 undef = Value.pointer (some ⟨r, 1, none⟩) := inv.done 2 _ 31 rfl rfl rfl
  have q32 : a'.tmps.getD 32 undef = Value.slice (some a) nf fcap := inv.done 3 _ 32 rfl rfl rfl
  have q33 : a'.tmps.getD 33 undef = Value.int IntKind.i64 (f : Int) := inv.done 4 _ 33 rfl rfl rfl
  have q34 : (fun _ => True) (a'.tmps.getD 34 undef)  := inv.done 5 _ 34 rfl rfl rfl
  have q35 : a'.tmps.getD 35 undef = pv r := inv.done 6 _ 35 rfl rfl rfl
  have q36 : a'.tmps.getD 36 undef = pv r := inv.done 7 _ 36 rfl rfl rfl
  have q37 : a'.tmps.getD 37 undef = Value.pointer (some ⟨r, 1, none⟩) := inv.done 8 _ 37 rfl rfl rfl
  have q38 : a'.tmps.getD 38 undef = Value.slice (some a) nf fcap := inv.done 9 _ 38 rfl rfl rfl
  have q39 : a'.tmps.getD 39 undef = Value.int IntKind.i64 (f : Int) := inv.done 10 _ 39 rfl rfl rfl
  have q40 : a'.tmps.getD 40 undef = Value.pointer (some (a.add (f * 2))) := inv.done 11 _ 40 rfl rfl rfl
  have q41 : a'.tmps.getD 41 undef = Value.pointer (some (a.add (f * 2))) := inv.done 12 _ 41 rfl rfl rfl
  have q42 : a'.tmps.getD 42 undef = Value.slice fo bl fcc := inv.done 13 _ 42 rfl rfl rfl
  have q43 : (fun _ => True) (a'.tmps.getD 43 undef)  := inv.done 14 _ 43 rfl rfl rfl
  have q44 : a'.tmps.getD 44 undef = Value.slice uo ul uc := inv.done 15 _ 44 rfl rfl rfl
  have q45 : (fun _ => True) (a'.tmps.getD 45 undef)  := inv.done 16 _ 45 rfl rfl rfl
  have q46 : a'.tmps.getD 46 undef = Value.pointer (some (a.add (f * 2))) := inv.done 17 _ 46 rfl rfl rfl
  have q47 : a'.tmps.getD 47 undef = Value.pointer (some (a.add (f * 2))) := inv.done 18 _ 47 rfl rfl rfl
  clear inv
  simp only [List.filterMap_cons, List.filterMap_nil, Par.putAll, Act.put, List.setIfInBounds_toArray, List.set_cons_succ, List.set_cons_zero, q29, q30, q31, q32, q33, q35, q36, q37, q38, q39, q40, q41, q42, q44, q46, q47]
  clear q29 q30 q31 q32 q33 q35 q36 q37 q38 q39 q40 q41 q42 q44 q46 q47
  obtain ⟨-, v5, hrd, hnw, hf⟩ := Rg.Ch.fin hR (by decide) 4 rfl; have HRD := hid hrd; have HNW := hid hnw; have HF := hid hf; clear hrd hf hnw hR
  generalize a'.tmps.getD 34 undef = u34 at *
  generalize a'.tmps.getD 43 undef = u43 at *
  generalize a'.tmps.getD 45 undef = u45 at *
  try clear a'
  go_wp2
  go_ret
  unfold RDo
  rw [HD2.out]
  exact ⟨rfl, ⟨_, HRD.out, Nw.set fun q hq => Nat.le_trans F2.out.size (HNW.out q hq)⟩, (F2.out.mono (by simp)).trans HF.out⟩
end Go.Proofs.YtijpokajhjhllaaGreatDoor

set_option linter.unusedSimpArgs false
set_option linter.unusedVariables false
namespace Go.Proofs.YtijpokajhjhllaaGreatDoor
open Go Go.RowKit Go.Tum Go.ChangeMaps
open Go.ParB (upd Lof)
open Go.ParE (putS slotsR slots Closed)

theorem crA_snoc : ∀ (d : Dir) (z : Nm × Nat) (ts : List Int) (fs : List (List UInt8 × Nat)), crA (d ++ [z]) ts fs = (crA d ts fs).modify z.2 (crF (ts.getD d.length 0))
  | [], z, ts, fs => by cases ts <;> rfl
  | y :: d, z, ts, fs => by
    show crA (d ++ [z]) ts.tail (fs.modify y.2 (crF (ts.headD 0))) = _
    rw [crA_snoc d z]
    show _ = (crA d ts.tail (fs.modify y.2 (crF (ts.headD 0)))).modify z.2 (crF (ts.getD (d.length + 1) 0))
    cases ts <;> simp
theorem crA_take {d : Dir} {k : Nat} (h : k < d.length) (ts : List Int) (fs : List (List UInt8 × Nat)) : crA (d.take (k + 1)) ts fs = (crA (d.take k) ts fs).modify d[k].2 (crF (ts.getD k 0)) := by
  rw [List.take_succ_eq_append_getElem h, crA_snoc, List.length_take, Nat.min_eq_left (by omega)]
theorem RD.rg {B : Nat} {w : World} {r : Nat} {x : RX} {s : PS} (h : RD B w r x s) : ∀ q ∈ r :: oB x.vf, B ≤ q := by
  intro q hq
  rcases List.mem_cons.1 hq with rfl | hq
  · exact h.lo
  · exact row_lo h.fr q hq
/-- The crash ahead of the files: the directory is the one that was sure, or behind some changes. -/
theorem RD.crashed {B : Nat} {w : World} {r : Nat} {x : RX} {s : PS} (h : RD B w r x s) (k : Nat) (hk : k ≤ s.opn.length) (vd : Value) (hd : w.ownsRow B 72 1 vd 1 [x.dv.getD k nilV]) :
    RD B (w.setCell ⟨r, 2, none⟩ vd) r ⟨x.vf, vd, x.fv, [x.dv.getD k nilV]⟩ { s with sure := dirAt s.sure (s.opn.take k), opn := [] } := by
  have hF : Fr [r] w (w.setCell ⟨r, 2, none⟩ vd) := fr_setCell _ _ _ (by simp)
  have hs : ∀ e, e ≠ 65 → ∀ q ∈ [r], ∃ o2, w.heap[q]? = some o2 ∧ ∀ cs, o2 ≠ .cells cs e (0, 0) := by
    intro e he q hq
    simp at hq; subst hq
    exact ⟨_, h.hd, fun cs hc => he (by simp at hc; exact hc.2.symm)⟩
  refine ⟨block_set5 h.hd 2 _, h.fn, ownsRow_fr2 h.fr hF (hs _ (by decide)), fun i hi => ownsRow_fr2 (h.fb i hi) hF (hs _ (by decide)), rfl, ownsRow_fr2 hd hF (hs _ (by decide)), fun j hj => ?_, h.lo⟩
  obtain rfl : j = 0 := by simpa using hj
  exact ownsRow_fr2 (h.dd k hk) hF (hs _ (by decide))
/-- A file's box. -/
def BoxQ (W : World) (v : Value) (n : Nat) (i : Nat) (σ : Nat → Value) (w' : World) : Prop := Ext W w' ∧ match i with
  | 1 => ∃ g, σ 9 = .pointer (some ⟨g, 0, none⟩) ∧ w'.heap[g]? = some (.cells #[.slice none 0 0, .int .i64 0] 98 (0, 0)) ∧ W.heap.size ≤ g
  | 2 => ∃ g, σ 9 = .pointer (some ⟨g, 0, none⟩) ∧ w'.heap[g]? = some (.cells #[v, .int .i64 (n : Int)] 98 (0, 0)) ∧ W.heap.size ≤ g
  | _ => True
def CraQ (W : World) (l : List UInt8) (n : Nat) (P : World → Prop) (i : Nat) (σ : Nat → Value) (w' : World) : Prop := (i < 4 → Ext W w') ∧ match i with
  | 1 => Own w' W.heap.size 5 (σ 81) []
  | 2 => Own w' W.heap.size 5 (σ 89) l
  | 3 => Own w' W.heap.size 5 (σ 89) l ∧ σ 94 = .agg #[σ 89, .int .i64 (n : Int)]
  | 4 => P w'
  | _ => True
def CrshP (B : Nat) (w : World) (r : Nat) (x : RX) (s : PS) (e : Ending) (w' : World) : Prop := (∃ u, e = .returned u) ∧ (∃ x', RD B w' r x' s ∧ Nw w.heap.size x.fv x'.fv) ∧ Fr (r :: oB x.vf) w w'
set_option maxRecDepth 100000 in
set_option maxHeartbeats 1000000 in
theorem rcrash_any {B : Nat} {w : World} {r : Nat} {x : RX} {s : PS} (k : Int) (ts : List Int) (vo : Option Addr) (vc : Nat) (h : RD B w r x s) (hB : B ≤ w.heap.size) (hw : WF s) (hl : s.opn.length ≤ 100000) (hk : i64 k)
    (hv : Vec Go.Tum.iv w (.slice vo ts.length vc) ts) (hlow : ∀ a, vo = some a → ts ≠ [] → a.block < B) (hts : ∀ t ∈ ts, i64 t) :
    Calls Tryz.prog 15 #[pv r, .int .i64 k, .slice vo ts.length vc] w fun e w' => CrshP B w r x (crP s k ts) e w' := by
  obtain ⟨-, htc, htm, hto, htcell⟩ := hv.opens
  have HTC : Hid (∀ b, vo = some b → ∀ j (h : j < ts.length), w.cell? (b.add j) = some (.int .i64 ts[j])) := hid htcell
  have HTO := hid hto
  have HLOW := hid hlow
  have HTS := hid hts
  have HW := hid hw
  have HB := hid hB
  have H := hid h
  have hopn := h.dn
  obtain ⟨ad, dcap, hvd, hdle, hdmx, hdd⟩ := h.dirs
  obtain ⟨at', hat⟩ : ∃ m : Nat, min k.toNat s.opn.length = m := ⟨_, rfl⟩
  have HAT : Hid (at' ≤ s.opn.length ∧ dirAt s.sure (s.opn.take at') = dirAt s.sure (s.opn.take k.toNat)) := hid ⟨by omega, by
    rw [← hat]
    by_cases hc : k.toNat ≤ s.opn.length
    · rw [Nat.min_eq_left hc]
    · rw [Nat.min_eq_right (by omega), List.take_length, List.take_of_length_le (by omega)]⟩
  obtain ⟨m, hm⟩ : ∃ m, s.opn.length + 1 = m := ⟨_, rfl⟩
  have HM := hid hm
  have hmin : min (max k 0) ((m : Int) - 1) = (at' : Int) := by omega
  have HMIN := hid hmin
  have hatm : at' < m := by omega
  have hatml : at' ≤ 100000 := by omega
  have hmb : m ≤ 100001 := by omega
  obtain ⟨o0, c0, dcell, -, -, -, -⟩ := hdd at' (by omega)
  have e1 : x.dv.getD at' nilV = .slice o0 (dirK s at').length c0 := by
    have h1 : OwV id w B 72 x.vd x.dv := by unfold OwV; simpa using h.dr
    obtain ⟨ao, cap, hv2, -, -, -, hcell⟩ := h1.vec.open
    have h3 : (some ad) = ao := by rw [hvd] at hv2; simp at hv2; exact hv2.1
    have h4 := hcell ad h3.symm at' (by omega)
    rw [dcell] at h4
    rw [List.getD_eq_getElem?_getD, List.getElem?_eq_getElem (by omega)]
    simpa using h4.symm
  have HDV := hid e1
  obtain ⟨d, hd⟩ : ∃ d, dirK s at' = d := ⟨_, rfl⟩
  have HD := hid hd
  have HDW : Hid (d.length ≤ 60 ∧ ∀ z ∈ d, z.2 < s.files.length) := hid (by
    rw [← hd]
    exact ⟨(hw.px at').le, fun z hz => hw.lt _ (cnk_sub ((hw.px at').nm z hz).2)⟩)
  obtain ⟨dl, hdl⟩ : ∃ k, d.length = k := ⟨_, rfl⟩
  have HDL := hid hdl
  rw [hd, hdl] at dcell
  obtain ⟨tl, htl⟩ : ∃ k, ts.length = k := ⟨_, rfl⟩
  have HTL := hid htl
  rw [htl] at htc ⊢
  have hfa : ∀ o, ((w.alloc o).cell? ⟨r, 2, none⟩ = some (.slice (some ad) m dcap) ∧ (∃ z, (w.alloc o).cell? ⟨r, 3, none⟩ = some z) ∧ ∃ z, (w.alloc o).cell? ⟨r, 4, none⟩ = some z) ∧ ∀ i, (w.alloc o).frozen? ⟨r, i, none⟩ = false := fun o => by
    obtain ⟨⟨-, -, c2, c3, c4⟩, ff⟩ := lk5 (h.ext (Ext.alloc w o)).hd
    rw [hvd, hm] at c2
    exact ⟨⟨c2, ⟨_, c3⟩, ⟨_, c4⟩⟩, ff⟩
  obtain ⟨⟨-, -, c2, c3, c4⟩, ff⟩ := lk5 h.hd
  rw [hvd, hm] at c2
  have HFA := hid hfa
  obtain ⟨⟨ca2, ⟨z3, ca3⟩, ⟨z4, ca4⟩⟩, cff⟩ := hfa (.cells #[.slice o0 dl c0] 72 (0, 0))
  have cf2 := cff 2
  have cf3 := cff 3
  have cf4 := cff 4
  have hki := hk
  unfold i64 at hki
  clear h hB hw hl hk hv hlow hts hto htcell hopn hvd hdd hat hm e1 hd hdl htl hdmx hfa cff c3 c4 ff
  go_enter Tryz.func15, Tryz.ntmps15
  go_wp2_with fail
  have hS : Hid (∃ vd1 dv1, RD B ((((w.alloc (.cells #[.slice o0 dl c0] 72)).setCell ⟨r, 2, none⟩ (.slice (some ⟨w.heap.size, 0, none⟩) 1 1)).setCell ⟨r, 3, none⟩ (.int .i64 (-1))).setCell ⟨r, 4, none⟩ (.bool false)) r ⟨x.vf, vd1, x.fv, dv1⟩ ({ s with sure := d, opn := [], fuse := -1, down := false } : PS)) := hid (by
    have h1 := H.out.ext (Ext.alloc w (.cells #[.slice o0 dl c0] 72))
    have hdv : x.dv.getD at' nilV = .slice o0 dl c0 := by rw [HDV.out, HD.out, HDL.out]
    have o1 := World.ownsRow_lit (base := B) (e := 72) (size := 1) w #[.slice o0 dl c0] 1 HB.out (by simp [maxLen]) (by simp)
    have h2 := h1.crashed at' HAT.out.1 (.slice (some ⟨w.heap.size, 0, none⟩) 1 1) (by rw [hdv]; exact o1)
    have h3 := h2.head (fr_setCell _ ⟨r, 3, none⟩ (.int .i64 (-1)) (by simp)) (-1) s.down (block_set5 h2.hd 3 _)
    have h4 := h3.head (fr_setCell _ ⟨r, 4, none⟩ (.bool false) (by simp)) (-1) false (block_set5 h3.hd 4 _)
    have hdd : dirAt s.sure (s.opn.take at') = d := HD.out
    rw [hdd] at h4
    exact ⟨_, _, h4⟩)
  have hF : Hid (Fr [r] w ((((w.alloc (.cells #[.slice o0 dl c0] 72)).setCell ⟨r, 2, none⟩ (.slice (some ⟨w.heap.size, 0, none⟩) 1 1)).setCell ⟨r, 3, none⟩ (.int .i64 (-1))).setCell ⟨r, 4, none⟩ (.bool false))) := hid ((((Ext.fr (Ext.alloc w _)).trans (fr_setCell _ _ _ (by simp))).trans (fr_setCell _ _ _ (by simp))).trans (fr_setCell _ _ _ (by simp)))
  generalize ((((w.alloc (.cells #[.slice o0 dl c0] 72)).setCell ⟨r, 2, none⟩ (.slice (some ⟨w.heap.size, 0, none⟩) 1 1)).setCell ⟨r, 3, none⟩ (.int .i64 (-1))).setCell ⟨r, 4, none⟩ (.bool false)) = W1 at *
  have hS2 := hS.out
  obtain ⟨vd1, dv1, h1⟩ := hS2
  have H1 := hid h1
  have HCR : Hid (crP s k ts = ({ s with files := crA d ts s.files, sure := d, opn := [], fuse := -1, down := false } : PS)) := hid (by
    have hdd : dirAt s.sure (s.opn.take at') = d := HD.out
    unfold crP
    rw [← HAT.out.2, hdd])
  have HRG : Hid (∀ q ∈ r :: oB x.vf, B ≤ q) := hid H.out.rg
  clear h1 hS ca2 ca3 ca4 cf2 cf3 cf4 HFA c2 dcell hmin hatm hatml hmb hki hdle
  refine (rnow_any H1.out).mono ?_
  rintro e w2 ⟨⟨v, rfl, ho⟩, hE⟩
  have hdir : ({ s with sure := d, opn := [], fuse := -1, down := false } : PS).dir = d := rfl
  rw [hdir] at ho
  have hrow : RowsOf w2 2 v ecells d := ⟨fun _ _ => rfl, Sl.of_owns ho⟩
  obtain ⟨eo, ec, rfl, hele, hemx, hen, -⟩ := hrow.open
  have HEN := hid hen
  have HO := hid ho
  have H2 := hid (H1.out.ext hE)
  have F2 := hid ((hF.out.trans (Ext.fr hE)).mono (T := r :: oB x.vf) (by simp))
  rw [HDL.out] at hele ⊢
  have hdlb : dl ≤ 60 := by rw [← HDL.out]; exact HDW.out.1
  clear hrow ho hE hen H1 hF hdir
  go_wp2
  go_loopw [8] (fun i wr => ∃ (q : Nat) (fv : List Value), q ≤ dl ∧ i = .int .i64 q ∧ Hid (RD B wr r ⟨x.vf, vd1, fv, dv1⟩ ({ s with files := crA (d.take q) ts s.files, sure := d, opn := [], fuse := -1, down := false } : PS)) ∧ Hid (Nw w.heap.size x.fv fv) ∧ Hid (Fr (r :: oB x.vf) w wr) ∧ Hid (wr.ownsRow B 100 2 (.slice eo d.length ec) d.length (d.flatMap ecells))) (fun i _ => dl - (intOf i).toNat)
  case atStart => exact ⟨0, x.fv, by omega, rfl, H2, hid (Nw.refl _ _), F2, HO⟩
  case round =>
    clear H2 F2 HO
    obtain ⟨q, fv, hq, rfl, HR, HNV, HF, HO⟩ := hrel
    by_cases hlt : q < dl
    · have hqi : (q : Int) < dl := by omega
      have hqd : q < d.length := by rw [HDL.out]; exact hlt
      obtain ⟨da, rfl⟩ := HEN.out (by omega)
      obtain ⟨z, hz⟩ : ∃ z, d[q] = z := ⟨_, rfl⟩
      have hstep := crA_take hqd ts s.files
      have hzl : z.2 < s.files.length := by rw [← hz]; exact HDW.out.2 _ (List.getElem_mem hqd)
      have hrow : RowsOf wr 2 (.slice (some da) d.length ec) ecells d := ⟨fun _ _ => rfl, Sl.of_owns HO.out⟩
      obtain ⟨ao9, cap9, e9, -, -, -, hcell⟩ := hrow.open
      have hent := cell_next (hcell da (by cases e9; rfl) q hqd 1 _ rfl) (by decide)
      rw [hz] at hstep
      replace hent : wr.cell? ⟨(da.add (q * 2)).block, (da.add (q * 2)).off + 1, none⟩ = some (.int .i64 (z.2 : Int)) := by rw [← hz]; exact hent
      obtain ⟨nm, f⟩ := z
      dsimp only at hstep hzl hent
      have HENT := hid hent
      obtain ⟨fk, hfk⟩ : ∃ fk, crA (d.take q) ts s.files = fk := ⟨_, rfl⟩
      have HFLK : Hid (∀ y ∈ fk, y.2 ≤ y.1.length ∧ y.1.length ≤ 1048576) := hid (by rw [← hfk]; exact (crA_ok _ ts s.files HW.out.fl).1)
      have hfl1 : f < ({ s with files := fk, sure := d, opn := [], fuse := -1, down := false } : PS).files.length := by rw [← hfk]; show f < (crA _ _ _).length; rw [crA_len]; exact hzl
      rw [hfk] at HR hstep
      have HSTEP := hid hstep
      clear hz hstep hzl hrow hcell e9 hent hqd hfk
      obtain ⟨a, fcap, g, hvf, hag, hle, hmx, hfc⟩ := HR.out.fc hfl1
      have hfb := HR.out.fb f hfl1
      obtain ⟨bs, hbs⟩ : ∃ b, (fk[f]'hfl1).1 = b := ⟨_, rfl⟩
      obtain ⟨ks, hks⟩ : ∃ k, (fk[f]'hfl1).2 = k := ⟨_, rfl⟩
      have hfb2 : Own wr B 5 (fv.getD f nilV) bs := by rw [← hbs]; exact hfb
      have hfc2 : FC wr a f (fv.getD f nilV) ks := by rw [← hks]; exact hfc
      have HBS := hid (And.intro hbs hks)
      have HBL : Hid (ks ≤ bs.length ∧ bs.length ≤ 1048576) := hid (by rw [← hbs, ← hks]; exact HFLK.out _ (List.getElem_mem hfl1))
      obtain ⟨bl, hbl⟩ : ∃ k, bs.length = k := ⟨_, rfl⟩
      have HBLE := hid hbl
      obtain ⟨fo, fcc, hfv⟩ : ∃ o c, fv.getD f nilV = .slice o bl c := by obtain ⟨o, c, e⟩ := row_shape hfb2; exact ⟨o, c, by rw [e, hbl]⟩
      rw [hfv] at hfc2 hfb2
      have hfcc : bl ≤ fcc ∧ fcc ≤ 9223372036854775807 := by obtain ⟨ao, cap, e, k1, k2, -⟩ := hfb2.byt.open; cases e; rw [hbl] at k1; exact ⟨k1, k2⟩
      have HOW := hid hfb2
      have HVF := hid hvf
      have HAG := hid hag
      have HFC := hid hfc2
      have HFL1 := hid hfl1
      obtain ⟨nf, hnf⟩ : ∃ k, fk.length = k := ⟨_, rfl⟩
      have HNF := hid hnf
      have hfl2 : f < nf := by rw [← hnf]; exact hfl1
      have hle2 : nf ≤ fcap := by rw [← hnf]; exact hle
      have hfi : (f : Int) < nf := by omega
      obtain ⟨⟨-, c1, -, -, -⟩, -⟩ := lk5 HR.out.hd
      have c1' : wr.cell? ⟨r, 1, none⟩ = some (.slice (some a) nf fcap) := by rw [← hnf, c1]; exact congrArg some hvf
      have C1 := hid c1'
      have hblb : bl ≤ 1048576 := by rw [← hbl]; exact HBL.out.2
      have hksb : ks ≤ bl := by rw [← hbl]; exact HBL.out.1
      clear c1 c1' hfb hfb2 hbs hks hbl hfv hvf hag hfc hfc2 hnf hle
      go_wp2
      refine ParE.wp_region_e (l := [_, _, _, _, _, _, _, _, _, _, _, _, _]) rfl (Rg.Ch [11, 12] [9] (BoxQ wr (.slice fo bl fcc) ks)) (ParC.VC [ParC.EQ (pv r), ParC.EQ (pv r), ParC.EQ (Value.pointer (some ⟨r, 1, none⟩)), ParC.EQ (Value.slice (some a) nf fcap), ParC.EQ (Value.slice (some da) dl ec), ParC.EQ (Value.int IntKind.i64 (q : Int)), ParC.EQ (Value.pointer (some (da.add (q * 2)))), ParC.EQ (Value.pointer (some ⟨(da.add (q * 2)).block, (da.add (q * 2)).off + 1, none⟩)), ParC.EQ (Value.int IntKind.i64 (f : Int)), ParC.EQ (Value.pointer (some (a.add (f * 2)))), ParC.EQ (Value.agg #[.slice fo bl fcc, .int .i64 (ks : Int)]), (fun _ => True), fun _ => True]) (by kernel_rfl) (by kernel_rfl) (Rg.Ch.start ⟨Ext.draw _, trivial⟩) ?_ ?_
      · refine ⟨fun L ρ w' hR hC hL hd hk => ?_, ?_⟩
        · exact Par.val_of_run rfl ⟨hR.other (by decide), hk.1⟩
        refine ⟨fun L ρ w' hR hC hL hd hk => ?_, ?_⟩
        · obtain ⟨k0, -⟩ := hk
          have e0 : ρ (.tmp 45) = pv r := k0
          clear k0
          refine Par.val_k fun K hK => ?_
          unfold Par.val
          (go_simp; exact hK _ _ ⟨hR.other (by decide), rfl⟩)
        refine ⟨fun L ρ w' hR hC hL hd hk => ?_, ?_⟩
        · obtain ⟨k0, -⟩ := hk
          have e0 : ρ (.tmp 46) = pv r := k0
          clear k0
          refine Par.val_k fun K hK => ?_
          unfold Par.val
          (go_simp; exact hK _ _ ⟨hR.other (by decide), rfl⟩)
        refine ⟨fun L ρ w' hR hC hL hd hk => ?_, ?_⟩
        · obtain ⟨k0, -⟩ := hk
          have e0 : ρ (.tmp 47) = Value.pointer (some ⟨r, 1, none⟩) := k0
          clear k0
          refine Par.val_k fun K hK => ?_
          unfold Par.val
          (obtain ⟨i, -, -, hx, -⟩ := hR.ex; have cc := hx.cell C1.out; go_simp; exact hK _ _ ⟨hR.other (by decide), rfl⟩)
        refine ⟨fun L ρ w' hR hC hL hd hk => ?_, ?_⟩
        · exact Par.val_of_run rfl ⟨hR.other (by decide), hk.1⟩
        refine ⟨fun L ρ w' hR hC hL hd hk => ?_, ?_⟩
        · exact Par.val_of_run rfl ⟨hR.other (by decide), hk.1⟩
        refine ⟨fun L ρ w' hR hC hL hd hk => ?_, ?_⟩
        · obtain ⟨k0, k1, -⟩ := hk
          have e0 : ρ (.tmp 49) = Value.slice (some da) dl ec := k0
          have e1 : ρ (.tmp 50) = Value.int IntKind.i64 (q : Int) := k1
          clear k0 k1
          refine Par.val_k fun K hK => ?_
          unfold Par.val
          (go_simp; exact hK _ _ ⟨hR.other (by decide), rfl⟩)
        refine ⟨fun L ρ w' hR hC hL hd hk => ?_, ?_⟩
        · obtain ⟨k0, -⟩ := hk
          have e0 : ρ (.tmp 51) = Value.pointer (some (da.add (q * 2))) := k0
          clear k0
          refine Par.val_k fun K hK => ?_
          unfold Par.val
          (go_simp; exact hK _ _ ⟨hR.other (by decide), rfl⟩)
        refine ⟨fun L ρ w' hR hC hL hd hk => ?_, ?_⟩
        · obtain ⟨k0, -⟩ := hk
          have e0 : ρ (.tmp 52) = Value.pointer (some ⟨(da.add (q * 2)).block, (da.add (q * 2)).off + 1, none⟩) := k0
          clear k0
          refine Par.val_k fun K hK => ?_
          unfold Par.val
          (obtain ⟨i, -, -, hx, -⟩ := hR.ex; have cc := hx.cell HENT.out; go_simp; exact hK _ _ ⟨hR.other (by decide), rfl⟩)
        refine ⟨fun L ρ w' hR hC hL hd hk => ?_, ?_⟩
        · obtain ⟨k0, k1, -⟩ := hk
          have e0 : ρ (.tmp 48) = Value.slice (some a) nf fcap := k0
          have e1 : ρ (.tmp 53) = Value.int IntKind.i64 (f : Int) := k1
          clear k0 k1
          refine Par.val_k fun K hK => ?_
          unfold Par.val
          (go_simp; exact hK _ _ ⟨hR.other (by decide), rfl⟩)
        refine ⟨fun L ρ w' hR hC hL hd hk => ?_, ?_⟩
        · obtain ⟨k0, -⟩ := hk
          have e0 : ρ (.tmp 54) = Value.pointer (some (a.add (f * 2))) := k0
          clear k0
          refine Par.val_k fun K hK => ?_
          unfold Par.val
          (obtain ⟨i, -, -, hx, -⟩ := hR.ex; have hfc := HFC.out.ext hx; have cc0 := hfc.c0; have cc1 := hfc.c1; clear hfc; go_simp; exact hK _ _ ⟨hR.other (by decide), rfl⟩)
        refine ⟨fun L ρ w' hR hC hL hd hk => ?_, ?_⟩
        · obtain ⟨-⟩ := hk
          skip
          refine Par.val_k fun K hK => ?_
          unfold Par.val
          (obtain ⟨hq, hs⟩ := hR.go 0 rfl hL (.inl rfl) (by decide); have hx := hq.1; go_simp; exact hK _ _ ⟨hs _ _ _ ⟨hx.trans (Ext.alloc _ _), _, rfl, heap_alloc_new _ _, hx.size⟩, trivial⟩)
        refine ⟨fun L ρ w' hR hC hL hd hk => ?_, ?_⟩
        · obtain ⟨k0, k1, -⟩ := hk
          have e0 : (fun _ => True) (ρ (.tmp 9))  := k0
          have e1 : ρ (.tmp 55) = Value.agg #[.slice fo bl fcc, .int .i64 (ks : Int)] := k1
          clear k0 k1
          refine Par.val_k fun K hK => ?_
          unfold Par.val
          (obtain ⟨hq, hs⟩ := hR.go 1 rfl hL (.inr ⟨11, rfl, hC.before 11 (i := 12) rfl hd (by kernel_rfl)⟩) (by decide); obtain ⟨hx, g9, hg1, hg2, hg3⟩ := hq; have e4 : ρ (.tmp 9) = .pointer (some ⟨g9, 0, none⟩) := hg1; obtain ⟨q0, q1, qf⟩ := lk2 hg2; have f0 := qf 0; have f1 := qf 1; have hres : Hid (Ext wr ((w'.setCell ⟨g9, 0, none⟩ (.slice fo bl fcc)).setCell ⟨g9, 1, none⟩ (.int .i64 (ks : Int))) ∧ ((w'.setCell ⟨g9, 0, none⟩ (.slice fo bl fcc)).setCell ⟨g9, 1, none⟩ (.int .i64 (ks : Int))).heap[g9]? = some (.cells #[.slice fo bl fcc, .int .i64 (ks : Int)] 98 (0, 0))) := hid ⟨(hx.setCell hg3 _).setCell hg3 _, Go.Joins.block_setCell (i := 1) (Go.Joins.block_setCell (i := 0) hg2 (.slice fo bl fcc)) (.int .i64 (ks : Int))⟩; clear qf; go_simp; exact hK _ _ ⟨hs none _ _ ⟨hres.out.1, g9, hg1, hres.out.2, hg3⟩, trivial⟩)
        trivial
      intro a' w' inv hR
      have q45 : a'.tmps.getD 45 undef = pv r := inv.done 0 _ 45 rfl rfl rfl
      have q46 : a'.tmps.getD 46 undef = pv r := inv.done 1 _ 46 rfl rfl rfl
      have q47 : a'.tmps.getD 47 undef = Value.pointer (some ⟨r, 1, none⟩) := inv.done 2 _ 47 rfl rfl rfl
      have q48 : a'.tmps.getD 48 undef = Value.slice (some a) nf fcap := inv.done 3 _ 48 rfl rfl rfl
      have q49 : a'.tmps.getD 49 undef = Value.slice (some da) dl ec := inv.done 4 _ 49 rfl rfl rfl
      have q50 : a'.tmps.getD 50 undef = Value.int IntKind.i64 (q : Int) := inv.done 5 _ 50 rfl rfl rfl
      have q51 : a'.tmps.getD 51 undef = Value.pointer (some (da.add (q * 2))) := inv.done 6 _ 51 rfl rfl rfl
      have q52 : a'.tmps.getD 52 undef = Value.pointer (some ⟨(da.add (q * 2)).block, (da.add (q * 2)).off + 1, none⟩) := inv.done 7 _ 52 rfl rfl rfl
      have q53 : a'.tmps.getD 53 undef = Value.int IntKind.i64 (f : Int) := inv.done 8 _ 53 rfl rfl rfl
      have q54 : a'.tmps.getD 54 undef = Value.pointer (some (a.add (f * 2))) := inv.done 9 _ 54 rfl rfl rfl
      have q55 : a'.tmps.getD 55 undef = Value.agg #[.slice fo bl fcc, .int .i64 (ks : Int)] := inv.done 10 _ 55 rfl rfl rfl
      have q9 : (fun _ => True) (a'.tmps.getD 9 undef)  := inv.done 11 _ 9 rfl rfl rfl
      clear inv
      simp only [List.filterMap_cons, List.filterMap_nil, Par.putAll, Act.put, List.setIfInBounds_toArray, List.set_cons_succ, List.set_cons_zero, q45, q46, q47, q48, q49, q50, q51, q52, q53, q54, q55]
      clear q45 q46 q47 q48 q49 q50 q51 q52 q53 q54 q55
      obtain ⟨hx8, g9, hg9, hgb, hgl⟩ := Rg.Ch.fin hR (by decide) 2 rfl; have e9 : a'.tmps.getD 9 undef = .pointer (some ⟨g9, 0, none⟩) := hg9; have HX8 := hid hx8; have HGB := hid hgb; clear hg9 hx8 hgb hgl hR
      generalize a'.tmps.getD 9 undef = u9 at *
      try clear a'
      rw [e9]
      clear e9
      by_cases hql : q < tl
      · obtain ⟨ta, rfl⟩ := HTO.out (by omega)
        have hqt : q < ts.length := by rw [HTL.out]; exact hql
        have hqi2 : (q : Int) < tl := by omega
        have htc1 := HTC.out ta rfl q hqt
        have hti := HTS.out _ (List.getElem_mem hqt)
        have hbel : Below B w w' := (HF.out.trans (Ext.fr HX8.out)).below HRG.out HB.out
        have htc2 : w'.cell? (ta.add q) = some (.int .i64 ts[q]) := (Below.cell hbel (by
          have := HLOW.out ta rfl (fun e => by rw [e] at hqt; simp at hqt)
          have h9 : (ta.add q).block = ta.block := by unfold Addr.add; split <;> rfl
          rw [h9]; exact this)).trans htc1
        have htg : ts.getD q 0 = ts[q] := by rw [List.getD_eq_getElem?_getD, List.getElem?_eq_getElem hqt]; rfl
        obtain ⟨tv, htv⟩ : ∃ t, ts[q] = t := ⟨_, rfl⟩
        rw [htv] at htc2 hti htg
        have HTC2 := hid htc2
        unfold i64 at hti
        obtain ⟨tn, htn⟩ : ∃ n : Nat, min (max tv 0) ((bl : Int) - (ks : Int)) = (n : Int) := ⟨(min (max tv 0) ((bl : Int) - (ks : Int))).toNat, by omega⟩
        have hkn0 : ks + tn ≤ bl := by omega
        obtain ⟨kn, hkn1⟩ : ∃ n, ks + tn = n := ⟨_, rfl⟩
        have hkn : kn ≤ bl := by omega
        have htnb : tn ≤ bl := by omega
        have HSK : Hid ((ks : Int) + (tn : Int) = (kn : Int)) := hid (by omega)
        have HTN := hid htn
        have HCF : Hid (crF (ts.getD q 0) (bs, ks) = (bs.take kn, kn)) := hid (by
          unfold crF
          rw [htg]
          simp only [HBLE.out]
          rw [htn, Int.toNat_natCast, hkn1])
        have GA0 := hid (lk2 HGB.out).1
        have GA1 := hid (lk2 HGB.out).2.1
        have hknc : kn ≤ fcc := by omega
        clear hkn0 hkn1 htc1 hbel htc2 htg htv hqt htn
        go_wp2
        refine ParE.wp_region_e (l := [_, _, _, _, _, _, _, _, _, _, _, _, _]) rfl (Rg.Ch [] [] (fun _ _ w3 => Ext w' w3)) (ParC.VC [ParC.EQ (Value.slice (some ta) tl vc), ParC.EQ (Value.int IntKind.i64 (q : Int)), ParC.EQ (Value.pointer (some (ta.add q))), ParC.EQ (Value.int IntKind.i64 tv), ParC.EQ (Value.int IntKind.i64 (max tv 0)), ParC.EQ (Value.pointer (some ⟨g9, 0, none⟩)), ParC.EQ (Value.slice fo bl fcc), ParC.EQ (Value.int IntKind.i64 (bl : Int)), ParC.EQ (Value.pointer (some ⟨g9, 1, none⟩)), ParC.EQ (Value.int IntKind.i64 (ks : Int)), ParC.EQ (Value.int IntKind.i64 ((bl : Int) - (ks : Int))), ParC.EQ (Value.int IntKind.i64 (tn : Int)), ParC.EQ (Value.int IntKind.i64 (tn : Int))]) (by kernel_rfl) (by kernel_rfl) (Rg.Ch.start (Ext.draw _)) ?_ ?_
        · refine ⟨fun L ρ w' hR hC hL hd hk => ?_, ?_⟩
          · exact Par.val_of_run rfl ⟨hR.other (by decide), hk.1⟩
          refine ⟨fun L ρ w' hR hC hL hd hk => ?_, ?_⟩
          · exact Par.val_of_run rfl ⟨hR.other (by decide), hk.1⟩
          refine ⟨fun L ρ w' hR hC hL hd hk => ?_, ?_⟩
          · obtain ⟨k0, k1, -⟩ := hk
            have e0 : ρ (.tmp 60) = Value.slice (some ta) tl vc := k0
            have e1 : ρ (.tmp 61) = Value.int IntKind.i64 (q : Int) := k1
            clear k0 k1
            refine Par.val_k fun K hK => ?_
            unfold Par.val
            (go_simp; exact hK _ _ ⟨hR.other (by decide), rfl⟩)
          refine ⟨fun L ρ w' hR hC hL hd hk => ?_, ?_⟩
          · obtain ⟨k0, -⟩ := hk
            have e0 : ρ (.tmp 62) = Value.pointer (some (ta.add q)) := k0
            clear k0
            refine Par.val_k fun K hK => ?_
            unfold Par.val
            (obtain ⟨i, -, -, hx⟩ := hR.ex; have cc := hx.cell HTC2.out; go_simp; exact hK _ _ ⟨hR.other (by decide), rfl⟩)
          refine ⟨fun L ρ w' hR hC hL hd hk => ?_, ?_⟩
          · obtain ⟨k0, k1, -⟩ := hk
            have e0 : ρ (.tmp 63) = Value.int IntKind.i64 tv := k0
            have e1 : ρ (Operand.const (Value.int IntKind.i64 0)) = (Value.int IntKind.i64 0) := k1
            clear k0 k1
            refine Par.val_k fun K hK => ?_
            unfold Par.val
            (go_simp; exact hK _ _ ⟨hR.other (by decide), rfl⟩)
          refine ⟨fun L ρ w' hR hC hL hd hk => ?_, ?_⟩
          · obtain ⟨k0, -⟩ := hk
            have e0 : ρ (.tmp 9) = Value.pointer (some ⟨g9, 0, none⟩) := k0
            clear k0
            refine Par.val_k fun K hK => ?_
            unfold Par.val
            (go_simp; exact hK _ _ ⟨hR.other (by decide), rfl⟩)
          refine ⟨fun L ρ w' hR hC hL hd hk => ?_, ?_⟩
          · obtain ⟨k0, -⟩ := hk
            have e0 : ρ (.tmp 65) = Value.pointer (some ⟨g9, 0, none⟩) := k0
            clear k0
            refine Par.val_k fun K hK => ?_
            unfold Par.val
            (obtain ⟨i, -, -, hx⟩ := hR.ex; have cc := hx.cell GA0.out; go_simp; exact hK _ _ ⟨hR.other (by decide), rfl⟩)
          refine ⟨fun L ρ w' hR hC hL hd hk => ?_, ?_⟩
          · obtain ⟨k0, -⟩ := hk
            have e0 : ρ (.tmp 66) = Value.slice fo bl fcc := k0
            clear k0
            refine Par.val_k fun K hK => ?_
            unfold Par.val
            (go_simp; exact hK _ _ ⟨hR.other (by decide), rfl⟩)
          refine ⟨fun L ρ w' hR hC hL hd hk => ?_, ?_⟩
          · obtain ⟨k0, -⟩ := hk
            have e0 : ρ (.tmp 9) = Value.pointer (some ⟨g9, 0, none⟩) := k0
            clear k0
            refine Par.val_k fun K hK => ?_
            unfold Par.val
            (go_simp; exact hK _ _ ⟨hR.other (by decide), rfl⟩)
          refine ⟨fun L ρ w' hR hC hL hd hk => ?_, ?_⟩
          · obtain ⟨k0, -⟩ := hk
            have e0 : ρ (.tmp 68) = Value.pointer (some ⟨g9, 1, none⟩) := k0
            clear k0
            refine Par.val_k fun K hK => ?_
            unfold Par.val
            (obtain ⟨i, -, -, hx⟩ := hR.ex; have cc := hx.cell GA1.out; go_simp; exact hK _ _ ⟨hR.other (by decide), rfl⟩)
          refine ⟨fun L ρ w' hR hC hL hd hk => ?_, ?_⟩
          · obtain ⟨k0, k1, -⟩ := hk
            have e0 : ρ (.tmp 67) = Value.int IntKind.i64 (bl : Int) := k0
            have e1 : ρ (.tmp 69) = Value.int IntKind.i64 (ks : Int) := k1
            clear k0 k1
            refine Par.val_k fun K hK => ?_
            unfold Par.val
            (have hwr : IntKind.i64.wrap ((bl : Int) - (ks : Int)) = (bl : Int) - (ks : Int) := IntWalk.i64_in _ (by omega); go_simp; exact hK _ _ ⟨hR.other (by decide), rfl⟩)
          refine ⟨fun L ρ w' hR hC hL hd hk => ?_, ?_⟩
          · obtain ⟨k0, k1, -⟩ := hk
            have e0 : ρ (.tmp 64) = Value.int IntKind.i64 (max tv 0) := k0
            have e1 : ρ (.tmp 70) = Value.int IntKind.i64 ((bl : Int) - (ks : Int)) := k1
            clear k0 k1
            refine Par.val_k fun K hK => ?_
            unfold Par.val
            (go_simp; rw [HTN.out]; exact hK _ _ ⟨hR.other (by decide), rfl⟩)
          refine ⟨fun L ρ w' hR hC hL hd hk => ?_, ?_⟩
          · exact Par.val_of_run rfl ⟨hR.other (by decide), hk.1⟩
          trivial
        intro a' w' inv hR
        have q60 : a'.tmps.getD 60 undef = Value.slice (some ta) tl vc := inv.done 0 _ 60 rfl rfl rfl
        have q61 : a'.tmps.getD 61 undef = Value.int IntKind.i64 (q : Int) := inv.done 1 _ 61 rfl rfl rfl
        have q62 : a'.tmps.getD 62 undef = Value.pointer (some (ta.add q)) := inv.done 2 _ 62 rfl rfl rfl
        have q63 : a'.tmps.getD 63 undef = Value.int IntKind.i64 tv := inv.done 3 _ 63 rfl rfl rfl
        have q64 : a'.tmps.getD 64 undef = Value.int IntKind.i64 (max tv 0) := inv.done 4 _ 64 rfl rfl rfl
        have q65 : a'.tmps.getD 65 undef = Value.pointer (some ⟨g9, 0, none⟩) := inv.done 5 _ 65 rfl rfl rfl
        have q66 : a'.tmps.getD 66 undef = Value.slice fo bl fcc := inv.done 6 _ 66 rfl rfl rfl
        have q67 : a'.tmps.getD 67 undef = Value.int IntKind.i64 (bl : Int) := inv.done 7 _ 67 rfl rfl rfl
        have q68 : a'.tmps.getD 68 undef = Value.pointer (some ⟨g9, 1, none⟩) := inv.done 8 _ 68 rfl rfl rfl
        have q69 : a'.tmps.getD 69 undef = Value.int IntKind.i64 (ks : Int) := inv.done 9 _ 69 rfl rfl rfl
        have q70 : a'.tmps.getD 70 undef = Value.int IntKind.i64 ((bl : Int) - (ks : Int)) := inv.done 10 _ 70 rfl rfl rfl
        have q71 : a'.tmps.getD 71 undef = Value.int IntKind.i64 (tn : Int) := inv.done 11 _ 71 rfl rfl rfl
        have q10 : a'.tmps.getD 10 undef = Value.int IntKind.i64 (tn : Int) := inv.done 12 _ 10 rfl rfl rfl
        clear inv
        simp only [List.filterMap_cons, List.filterMap_nil, Par.putAll, Act.put, List.setIfInBounds_toArray, List.set_cons_succ, List.set_cons_zero, q60, q61, q62, q63, q64, q65, q66, q67, q68, q69, q70, q71, q10]
        clear q60 q61 q62 q63 q64 q65 q66 q67 q68 q69 q70 q71 q10
        obtain ⟨_, -, -, hx9⟩ := hR.ex; have HX9 := hid (HX8.out.trans hx9); have HGB9 := hid (hx9.obj HGB.out); clear hx9 hR
        try clear a'
        clear HX8 HGB
        have HX8 := HX9
        have HGB := HGB9
        generalize hW9 : w' = w9 at *
        have HWB : Hid (B ≤ w9.heap.size) := hid (Nat.le_trans HB.out (Nat.le_trans HF.out.size HX8.out.size))
        have H9 := hid (HR.out.ext HX8.out)
        have HFC9 := hid (HFC.out.ext HX8.out)
        have HENT9 := hid (HX8.out.cell HENT.out)
        have HOW9 := hid (HOW.out.ext HX8.out)
        have C9 := hid (HX8.out.cell C1.out)
        have GB0 := hid (lk2 HGB.out).1
        have GB1 := hid (lk2 HGB.out).2.1
        have HNEW : Hid ((fk[f]'HFL1.out) = (bs, ks)) := hid (Prod.ext HBS.out.1 HBS.out.2)
        clear hW9
        go_wp2
        refine ParE.wp_region_e (l := [_, _, _, _, _, _, _, _, _, _, _, _, _, _, _, _, _, _, _, _, _, _, _, _, _]) rfl (Rg.Ch [9, 17, 22, 24] [81, 89, 94] (CraQ w9 (bs.take kn) kn fun w' => ∃ v, RD B w' r ⟨x.vf, vd1, fv.set f v, dv1⟩ ({ s with files := fk.set f (bs.take kn, kn), sure := d, opn := [], fuse := -1, down := false } : PS) ∧ (∀ q ∈ oB v, w9.heap.size ≤ q) ∧ Fr (r :: oB x.vf) w9 w')) (ParC.VC [ParC.EQ (pv r), ParC.EQ (pv r), ParC.EQ (Value.pointer (some ⟨r, 1, none⟩)), ParC.EQ (Value.slice (some a) nf fcap), ParC.EQ (Value.slice (some da) dl ec), ParC.EQ (Value.int IntKind.i64 (q : Int)), ParC.EQ (Value.pointer (some (da.add (q * 2)))), ParC.EQ (Value.pointer (some ⟨(da.add (q * 2)).block, (da.add (q * 2)).off + 1, none⟩)), ParC.EQ (Value.int IntKind.i64 (f : Int)), (fun _ => True), ParC.EQ (Value.pointer (some ⟨g9, 0, none⟩)), ParC.EQ (Value.slice fo bl fcc), ParC.EQ (Value.pointer (some ⟨g9, 1, none⟩)), ParC.EQ (Value.int IntKind.i64 (ks : Int)), ParC.EQ (Value.int IntKind.i64 (tn : Int)), ParC.EQ (Value.int IntKind.i64 (kn : Int)), ParC.EQ (Value.slice fo kn fcc), (fun _ => True), ParC.EQ (Value.pointer (some ⟨g9, 1, none⟩)), ParC.EQ (Value.int IntKind.i64 (ks : Int)), ParC.EQ (Value.int IntKind.i64 (tn : Int)), ParC.EQ (Value.int IntKind.i64 (kn : Int)), (fun _ => True), ParC.EQ (Value.pointer (some (a.add (f * 2)))), fun _ => True]) (by kernel_rfl) (by kernel_rfl) (Rg.Ch.start ⟨fun _ => Ext.draw _, trivial⟩) ?_ ?_
        · refine ⟨fun L ρ w' hR hC hL hd hk => ?_, ?_⟩
          · exact Par.val_of_run rfl ⟨hR.other (by decide), hk.1⟩
          refine ⟨fun L ρ w' hR hC hL hd hk => ?_, ?_⟩
          · obtain ⟨k0, -⟩ := hk
            have e0 : ρ (.tmp 72) = pv r := k0
            clear k0
            refine Par.val_k fun K hK => ?_
            unfold Par.val
            (go_simp; exact hK _ _ ⟨hR.other (by decide), rfl⟩)
          refine ⟨fun L ρ w' hR hC hL hd hk => ?_, ?_⟩
          · obtain ⟨k0, -⟩ := hk
            have e0 : ρ (.tmp 73) = pv r := k0
            clear k0
            refine Par.val_k fun K hK => ?_
            unfold Par.val
            (go_simp; exact hK _ _ ⟨hR.other (by decide), rfl⟩)
          refine ⟨fun L ρ w' hR hC hL hd hk => ?_, ?_⟩
          · obtain ⟨k0, -⟩ := hk
            have e0 : ρ (.tmp 74) = Value.pointer (some ⟨r, 1, none⟩) := k0
            clear k0
            refine Par.val_k fun K hK => ?_
            unfold Par.val
            (obtain ⟨i, hi, hq⟩ := hR.some 3 rfl (hC.notyet 24 3 hL (by kernel_rfl)); have cc := (hq.1 (by omega)).cell C9.out; go_simp; exact hK _ _ ⟨hR.other (by decide), rfl⟩)
          refine ⟨fun L ρ w' hR hC hL hd hk => ?_, ?_⟩
          · exact Par.val_of_run rfl ⟨hR.other (by decide), hk.1⟩
          refine ⟨fun L ρ w' hR hC hL hd hk => ?_, ?_⟩
          · exact Par.val_of_run rfl ⟨hR.other (by decide), hk.1⟩
          refine ⟨fun L ρ w' hR hC hL hd hk => ?_, ?_⟩
          · obtain ⟨k0, k1, -⟩ := hk
            have e0 : ρ (.tmp 76) = Value.slice (some da) dl ec := k0
            have e1 : ρ (.tmp 77) = Value.int IntKind.i64 (q : Int) := k1
            clear k0 k1
            refine Par.val_k fun K hK => ?_
            unfold Par.val
            (go_simp; exact hK _ _ ⟨hR.other (by decide), rfl⟩)
          refine ⟨fun L ρ w' hR hC hL hd hk => ?_, ?_⟩
          · obtain ⟨k0, -⟩ := hk
            have e0 : ρ (.tmp 78) = Value.pointer (some (da.add (q * 2))) := k0
            clear k0
            refine Par.val_k fun K hK => ?_
            unfold Par.val
            (go_simp; exact hK _ _ ⟨hR.other (by decide), rfl⟩)
          refine ⟨fun L ρ w' hR hC hL hd hk => ?_, ?_⟩
          · obtain ⟨k0, -⟩ := hk
            have e0 : ρ (.tmp 79) = Value.pointer (some ⟨(da.add (q * 2)).block, (da.add (q * 2)).off + 1, none⟩) := k0
            clear k0
            refine Par.val_k fun K hK => ?_
            unfold Par.val
            (obtain ⟨i, hi, hq⟩ := hR.some 3 rfl (hC.notyet 24 8 hL (by kernel_rfl)); have cc := (hq.1 (by omega)).cell HENT9.out; go_simp; exact hK _ _ ⟨hR.other (by decide), rfl⟩)
          refine ⟨fun L ρ w' hR hC hL hd hk => ?_, ?_⟩
          · obtain ⟨-⟩ := hk
            skip
            refine Par.val_k fun K hK => ?_
            unfold Par.val
            (obtain ⟨hq, hs⟩ := hR.go 0 rfl hL (.inl rfl) (by decide); have hx := hq.1 (by decide); go_simp; exact hK _ _ ⟨hs _ _ _ ⟨fun _ => hx.trans (Ext.alloc _ _), owns_mono (World.ownsRow_lit (base := w'.heap.size) w' #[] 0 (Nat.le_refl _) (by simp [maxLen]) (by simp)) hx.size⟩, trivial⟩)
          refine ⟨fun L ρ w' hR hC hL hd hk => ?_, ?_⟩
          · obtain ⟨k0, -⟩ := hk
            have e0 : ρ (.tmp 9) = Value.pointer (some ⟨g9, 0, none⟩) := k0
            clear k0
            refine Par.val_k fun K hK => ?_
            unfold Par.val
            (go_simp; exact hK _ _ ⟨hR.other (by decide), rfl⟩)
          refine ⟨fun L ρ w' hR hC hL hd hk => ?_, ?_⟩
          · obtain ⟨k0, -⟩ := hk
            have e0 : ρ (.tmp 82) = Value.pointer (some ⟨g9, 0, none⟩) := k0
            clear k0
            refine Par.val_k fun K hK => ?_
            unfold Par.val
            (obtain ⟨i, hi, hq⟩ := hR.some 3 rfl (hC.notyet 24 11 hL (by kernel_rfl)); have cc := (hq.1 (by omega)).cell GB0.out; go_simp; exact hK _ _ ⟨hR.other (by decide), rfl⟩)
          refine ⟨fun L ρ w' hR hC hL hd hk => ?_, ?_⟩
          · obtain ⟨k0, -⟩ := hk
            have e0 : ρ (.tmp 9) = Value.pointer (some ⟨g9, 0, none⟩) := k0
            clear k0
            refine Par.val_k fun K hK => ?_
            unfold Par.val
            (go_simp; exact hK _ _ ⟨hR.other (by decide), rfl⟩)
          refine ⟨fun L ρ w' hR hC hL hd hk => ?_, ?_⟩
          · obtain ⟨k0, -⟩ := hk
            have e0 : ρ (.tmp 84) = Value.pointer (some ⟨g9, 1, none⟩) := k0
            clear k0
            refine Par.val_k fun K hK => ?_
            unfold Par.val
            (obtain ⟨i, hi, hq⟩ := hR.some 3 rfl (hC.notyet 24 13 hL (by kernel_rfl)); have cc := (hq.1 (by omega)).cell GB1.out; go_simp; exact hK _ _ ⟨hR.other (by decide), rfl⟩)
          refine ⟨fun L ρ w' hR hC hL hd hk => ?_, ?_⟩
          · exact Par.val_of_run rfl ⟨hR.other (by decide), hk.1⟩
          refine ⟨fun L ρ w' hR hC hL hd hk => ?_, ?_⟩
          · obtain ⟨k0, k1, -⟩ := hk
            have e0 : ρ (.tmp 85) = Value.int IntKind.i64 (ks : Int) := k0
            have e1 : ρ (.tmp 86) = Value.int IntKind.i64 (tn : Int) := k1
            clear k0 k1
            refine Par.val_k fun K hK => ?_
            unfold Par.val
            (have hwr : IntKind.i64.wrap ((ks : Int) + (tn : Int)) = (ks : Int) + (tn : Int) := IntWalk.i64_in _ (by omega); go_simp; rw [HSK.out]; exact hK _ _ ⟨hR.other (by decide), rfl⟩)
          refine ⟨fun L ρ w' hR hC hL hd hk => ?_, ?_⟩
          · obtain ⟨k0, k1, -⟩ := hk
            have e0 : ρ (.tmp 83) = Value.slice fo bl fcc := k0
            have e1 : ρ (.tmp 87) = Value.int IntKind.i64 (kn : Int) := k1
            clear k0 k1
            refine Par.val_k fun K hK => ?_
            unfold Par.val
            (go_simp; exact hK _ _ ⟨hR.other (by decide), rfl⟩)
          refine ⟨fun L ρ w' hR hC hL hd hk => ?_, ?_⟩
          · obtain ⟨k0, k1, -⟩ := hk
            have e0 : (fun _ => True) (ρ (.tmp 81))  := k0
            have e1 : ρ (.tmp 88) = Value.slice fo kn fcc := k1
            clear k0 k1
            refine Par.val_k fun K hK => ?_
            unfold Par.val
            (obtain ⟨hq, hs⟩ := hR.go 1 rfl hL (.inr ⟨9, rfl, hC.before 9 (i := 17) rfl hd (by kernel_rfl)⟩) (by decide); have hx := hq.1 (by decide); have ho : Own w' w9.heap.size 5 (ρ (.tmp 81)) [] := hq.2; have hby := byt_take (HOW9.out.byt.ext hx) kn (by rw [HBLE.out]; omega); obtain ⟨v', w3, r1, r2, r3⟩ := run_app_b w9 37 hx ho hby (by simp; omega); rw [← e1] at r1; have r2' : Own w3 w9.heap.size 5 v' (bs.take kn) := (by simpa using r2); exact Par.val_append r1 (hK _ _ ⟨hs _ _ _ ⟨fun _ => r3, r2'⟩, trivial⟩))
          refine ⟨fun L ρ w' hR hC hL hd hk => ?_, ?_⟩
          · obtain ⟨k0, -⟩ := hk
            have e0 : ρ (.tmp 9) = Value.pointer (some ⟨g9, 0, none⟩) := k0
            clear k0
            refine Par.val_k fun K hK => ?_
            unfold Par.val
            (go_simp; exact hK _ _ ⟨hR.other (by decide), rfl⟩)
          refine ⟨fun L ρ w' hR hC hL hd hk => ?_, ?_⟩
          · obtain ⟨k0, -⟩ := hk
            have e0 : ρ (.tmp 90) = Value.pointer (some ⟨g9, 1, none⟩) := k0
            clear k0
            refine Par.val_k fun K hK => ?_
            unfold Par.val
            (obtain ⟨i, hi, hq⟩ := hR.some 3 rfl (hC.notyet 24 19 hL (by kernel_rfl)); have cc := (hq.1 (by omega)).cell GB1.out; go_simp; exact hK _ _ ⟨hR.other (by decide), rfl⟩)
          refine ⟨fun L ρ w' hR hC hL hd hk => ?_, ?_⟩
          · exact Par.val_of_run rfl ⟨hR.other (by decide), hk.1⟩
          refine ⟨fun L ρ w' hR hC hL hd hk => ?_, ?_⟩
          · obtain ⟨k0, k1, -⟩ := hk
            have e0 : ρ (.tmp 91) = Value.int IntKind.i64 (ks : Int) := k0
            have e1 : ρ (.tmp 92) = Value.int IntKind.i64 (tn : Int) := k1
            clear k0 k1
            refine Par.val_k fun K hK => ?_
            unfold Par.val
            (have hwr : IntKind.i64.wrap ((ks : Int) + (tn : Int)) = (ks : Int) + (tn : Int) := IntWalk.i64_in _ (by omega); go_simp; rw [HSK.out]; exact hK _ _ ⟨hR.other (by decide), rfl⟩)
          refine ⟨fun L ρ w' hR hC hL hd hk => ?_, ?_⟩
          · obtain ⟨k0, k1, -⟩ := hk
            have e0 : (fun _ => True) (ρ (.tmp 89))  := k0
            have e1 : ρ (.tmp 93) = Value.int IntKind.i64 (kn : Int) := k1
            clear k0 k1
            refine Par.val_k fun K hK => ?_
            unfold Par.val
            (obtain ⟨hq, hs⟩ := hR.go 2 rfl hL (.inr ⟨17, rfl, hC.before 17 (i := 22) rfl hd (by kernel_rfl)⟩) (by decide); have hx := hq.1 (by decide); have ho : Own w' w9.heap.size 5 (ρ (.tmp 89)) (bs.take kn) := hq.2; obtain ⟨o6, c6, h6⟩ := row_slN ho; obtain ⟨n6, hn6⟩ : ∃ k, (bs.take kn).length = k := ⟨_, rfl⟩; rw [hn6] at h6; have e4 : ρ (.tmp 89) = .slice o6 n6 c6 := h6; clear hn6; go_simp; exact hK _ _ ⟨hs _ _ _ ⟨fun _ => hx, ho, by show _ = Value.agg #[ρ (.tmp 89), _]; rw [e4]; rfl⟩, trivial⟩)
          refine ⟨fun L ρ w' hR hC hL hd hk => ?_, ?_⟩
          · obtain ⟨k0, k1, -⟩ := hk
            have e0 : ρ (.tmp 75) = Value.slice (some a) nf fcap := k0
            have e1 : ρ (.tmp 80) = Value.int IntKind.i64 (f : Int) := k1
            clear k0 k1
            refine Par.val_k fun K hK => ?_
            unfold Par.val
            (go_simp; exact hK _ _ ⟨hR.other (by decide), rfl⟩)
          refine ⟨fun L ρ w' hR hC hL hd hk => ?_, ?_⟩
          · obtain ⟨k0, k1, -⟩ := hk
            have e0 : ρ (.tmp 95) = Value.pointer (some (a.add (f * 2))) := k0
            have e1 : (fun _ => True) (ρ (.tmp 94))  := k1
            clear k0 k1
            refine Par.val_k fun K hK => ?_
            unfold Par.val
            (obtain ⟨hq, hs⟩ := hR.go 3 rfl hL (.inr ⟨22, rfl, hC.before 22 (i := 24) rfl hd (by kernel_rfl)⟩) (by decide); have hx := hq.1 (by decide); have ho : Own w' w9.heap.size 5 (ρ (.tmp 89)) (bs.take kn) := hq.2.1; obtain ⟨o6, c6, h6⟩ := row_slN ho; obtain ⟨n6, hn6⟩ : ∃ k, (bs.take kn).length = k := ⟨_, rfl⟩; rw [hn6] at h6; have e6 : ρ (.tmp 89) = .slice o6 n6 c6 := h6; have e4 : ρ (.tmp 94) = .agg #[.slice o6 n6 c6, .int .i64 (kn : Int)] := (by have h8 : ρ (.tmp 94) = .agg #[ρ (.tmp 89), .int .i64 ((kn : Nat) : Int)] := hq.2.2; rw [h8, e6]; try simp); have hfc := HFC9.out.ext hx; have cc := hfc.c0; have cc1 := hfc.c1; have ff := hfc.f0; have ff1 := hfc.f1; have hr0 := ((H9.out.ext hx).set0 HFL1.out (HVF.out.trans (by rw [HAG.out])) (bs.take kn) (.slice o6 n6 c6) (by rw [← e6]; exact owns_mono ho HWB.out)); have hr1 := hr0.1.set1 (f := f) (by show f < (fk.set f _).length; rw [List.length_set]; exact HFL1.out) (HVF.out.trans (by rw [HAG.out])) kn; have hadr : Hid (a.add (f * 2) = ⟨g, f * 2, none⟩) := hid (by rw [HAG.out, addr0]); have hadr2 : Hid ((⟨(a.add (f * 2)).block, (a.add (f * 2)).off + 1, none⟩ : Addr) = ⟨g, f * 2 + 1, none⟩) := hid (by rw [HAG.out, addr0]); have HR0 := hid hr0; have HR1 := hid hr1; have hlen8 : f < (fk.set f (bs.take kn, (fk[f]'HFL1.out).2)).length := (by rw [List.length_set]; exact HFL1.out); obtain ⟨g8, cap8, q1, -, -, -, -, q6, q7⟩ := hr0.1.at hlen8; have hg8 : g8 = g := (by have h7 := HVF.out; rw [HAG.out] at h7; rw [show x.vf = _ from h7] at q1; simp at q1; exact q1.1.symm); have cc2 : (w'.setCell (a.add (f * 2)) (.slice o6 n6 c6)).cell? ⟨(a.add (f * 2)).block, (a.add (f * 2)).off + 1, none⟩ = some (.int .i64 (((fk.set f (bs.take kn, (fk[f]'HFL1.out).2))[f]'hlen8).2 : Int)) := (by rw [hadr2.out, hadr.out, ← hg8]; rw [← hg8] at q6; exact q6); have ff2 : (w'.setCell (a.add (f * 2)) (.slice o6 n6 c6)).frozen? ⟨(a.add (f * 2)).block, (a.add (f * 2)).off + 1, none⟩ = false := (by rw [hadr2.out, hadr.out, ← hg8]; rw [← hg8] at q7; exact q7 _); clear hfc hn6 hr0 hr1 q1 q6 q7 hg8; go_simp; rw [hadr2.out, hadr.out]; exact hK _ _ ⟨hs none _ _ ⟨fun h => absurd h (by decide), _, by have h7 := HR1.out; simp only [List.set_set, List.getElem_set_self] at h7; exact ⟨by simpa using h7.1, (by rw [← e6]; exact row_lo ho), (Ext.fr hx).trans (HR0.out.2.trans (by simpa using h7.2))⟩⟩, trivial⟩)
          trivial
        intro a' w' inv hR
        have q72 : a'.tmps.getD 72 undef = pv r := inv.done 0 _ 72 rfl rfl rfl
        have q73 : a'.tmps.getD 73 undef = pv r := inv.done 1 _ 73 rfl rfl rfl
        have q74 : a'.tmps.getD 74 undef = Value.pointer (some ⟨r, 1, none⟩) := inv.done 2 _ 74 rfl rfl rfl
        have q75 : a'.tmps.getD 75 undef = Value.slice (some a) nf fcap := inv.done 3 _ 75 rfl rfl rfl
        have q76 : a'.tmps.getD 76 undef = Value.slice (some da) dl ec := inv.done 4 _ 76 rfl rfl rfl
        have q77 : a'.tmps.getD 77 undef = Value.int IntKind.i64 (q : Int) := inv.done 5 _ 77 rfl rfl rfl
        have q78 : a'.tmps.getD 78 undef = Value.pointer (some (da.add (q * 2))) := inv.done 6 _ 78 rfl rfl rfl
        have q79 : a'.tmps.getD 79 undef = Value.pointer (some ⟨(da.add (q * 2)).block, (da.add (q * 2)).off + 1, none⟩) := inv.done 7 _ 79 rfl rfl rfl
        have q80 : a'.tmps.getD 80 undef = Value.int IntKind.i64 (f : Int) := inv.done 8 _ 80 rfl rfl rfl
        have q81 : (fun _ => True) (a'.tmps.getD 81 undef)  := inv.done 9 _ 81 rfl rfl rfl
        have q82 : a'.tmps.getD 82 undef = Value.pointer (some ⟨g9, 0, none⟩) := inv.done 10 _ 82 rfl rfl rfl
        have q83 : a'.tmps.getD 83 undef = Value.slice fo bl fcc := inv.done 11 _ 83 rfl rfl rfl
        have q84 : a'.tmps.getD 84 undef = Value.pointer (some ⟨g9, 1, none⟩) := inv.done 12 _ 84 rfl rfl rfl
        have q85 : a'.tmps.getD 85 undef = Value.int IntKind.i64 (ks : Int) := inv.done 13 _ 85 rfl rfl rfl
        have q86 : a'.tmps.getD 86 undef = Value.int IntKind.i64 (tn : Int) := inv.done 14 _ 86 rfl rfl rfl
        have q87 : a'.tmps.getD 87 undef = Value.int IntKind.i64 (kn : Int) := inv.done 15 _ 87 rfl rfl rfl
        have q88 : a'.tmps.getD 88 undef = Value.slice fo kn fcc := inv.done 16 _ 88 rfl rfl rfl
        have q89 : (fun _ => True) (a'.tmps.getD 89 undef)  := inv.done 17 _ 89 rfl rfl rfl
        have q90 : a'.tmps.getD 90 undef = Value.pointer (some ⟨g9, 1, none⟩) := inv.done 18 _ 90 rfl rfl rfl
        have q91 : a'.tmps.getD 91 undef = Value.int IntKind.i64 (ks : Int) := inv.done 19 _ 91 rfl rfl rfl
        have q92 : a'.tmps.getD 92 undef = Value.int IntKind.i64 (tn : Int) := inv.done 20 _ 92 rfl rfl rfl
        have q93 : a'.tmps.getD 93 undef = Value.int IntKind.i64 (kn : Int) := inv.done 21 _ 93 rfl rfl rfl
        have q94 : (fun _ => True) (a'.tmps.getD 94 undef)  := inv.done 22 _ 94 rfl rfl rfl
        have q95 : a'.tmps.getD 95 undef = Value.pointer (some (a.add (f * 2))) := inv.done 23 _ 95 rfl rfl rfl
        clear inv
        simp only [List.filterMap_cons, List.filterMap_nil, Par.putAll, Act.put, List.setIfInBounds_toArray, List.set_cons_succ, List.set_cons_zero, q72, q73, q74, q75, q76, q77, q78, q79, q80, q82, q83, q84, q85, q86, q87, q88, q90, q91, q92, q93, q95]
        clear q72 q73 q74 q75 q76 q77 q78 q79 q80 q82 q83 q84 q85 q86 q87 q88 q90 q91 q92 q93 q95
        obtain ⟨-, v5, hrd, hnw, hf⟩ := Rg.Ch.fin hR (by decide) 4 rfl; have HRD := hid hrd; have HNW := hid hnw; have HF2 := hid hf; clear hrd hf hnw hR
        generalize a'.tmps.getD 81 undef = u81 at *
        generalize a'.tmps.getD 89 undef = u89 at *
        generalize a'.tmps.getD 94 undef = u94 at *
        try clear a'
        go_wp2
        go_roundw
        case rel =>
          refine ⟨q + 1, fv.set f v5, by omega, by go_num, ?_, hid (HNV.out.trans (Nw.set (n := w.heap.size) fun q hq => Nat.le_trans (Nat.le_trans HF.out.size HX8.out.size) (HNW.out q hq)) (Nat.le_refl _)), ?_, ?_⟩
          · have h7 := HRD.out
            refine hid ?_
            rw [HSTEP.out, modify_set _ _ HFL1.out, HNEW.out, show crF (ts.getD q 0) (bs, ks) = (bs.take kn, kn) from HCF.out]
            exact h7
          · exact hid ((HF.out.trans (Ext.fr HX8.out)).trans HF2.out)
          · refine hid (ownsRow_fr2 (HX8.out.owns HO.out) HF2.out ?_)
            intro y hy
            rcases List.mem_cons.1 hy with rfl | hy
            · exact ⟨_, H9.out.hd, by intro cs e; simp at e⟩
            · exact own_blk H9.out.fr (by decide) y hy
        case measure => simp [intOf]; omega
      · have hkn : ks ≤ bl := hksb
        have hknc : ks ≤ fcc := by omega
        have HCF : Hid (crF (ts.getD q 0) (bs, ks) = (bs.take ks, ks)) := hid (by
          have htg : ts.getD q 0 = 0 := by rw [List.getD_eq_getElem?_getD, List.getElem?_eq_none (by rw [HTL.out]; omega)]; rfl
          unfold crF
          rw [htg]
          simp only [HBLE.out]
          have e0 : min (max (0 : Int) 0) ((bl : Int) - (ks : Int)) = 0 := by omega
          rw [e0]; simp)
        go_wp2
        generalize hW9 : w' = w9 at *
        have HWB : Hid (B ≤ w9.heap.size) := hid (Nat.le_trans HB.out (Nat.le_trans HF.out.size HX8.out.size))
        have H9 := hid (HR.out.ext HX8.out)
        have HFC9 := hid (HFC.out.ext HX8.out)
        have HENT9 := hid (HX8.out.cell HENT.out)
        have HOW9 := hid (HOW.out.ext HX8.out)
        have C9 := hid (HX8.out.cell C1.out)
        have GB0 := hid (lk2 HGB.out).1
        have GB1 := hid (lk2 HGB.out).2.1
        have HNEW : Hid ((fk[f]'HFL1.out) = (bs, ks)) := hid (Prod.ext HBS.out.1 HBS.out.2)
        clear hW9
        go_wp2
        refine ParE.wp_region_e (l := [_, _, _, _, _, _, _, _, _, _, _, _, _, _, _, _, _, _, _, _, _, _, _, _, _]) rfl (Rg.Ch [9, 17, 22, 24] [81, 89, 94] (CraQ w9 (bs.take ks) ks fun w' => ∃ v, RD B w' r ⟨x.vf, vd1, fv.set f v, dv1⟩ ({ s with files := fk.set f (bs.take ks, ks), sure := d, opn := [], fuse := -1, down := false } : PS) ∧ (∀ q ∈ oB v, w9.heap.size ≤ q) ∧ Fr (r :: oB x.vf) w9 w')) (ParC.VC [ParC.EQ (pv r), ParC.EQ (pv r), ParC.EQ (Value.pointer (some ⟨r, 1, none⟩)), ParC.EQ (Value.slice (some a) nf fcap), ParC.EQ (Value.slice (some da) dl ec), ParC.EQ (Value.int IntKind.i64 (q : Int)), ParC.EQ (Value.pointer (some (da.add (q * 2)))), ParC.EQ (Value.pointer (some ⟨(da.add (q * 2)).block, (da.add (q * 2)).off + 1, none⟩)), ParC.EQ (Value.int IntKind.i64 (f : Int)), (fun _ => True), ParC.EQ (Value.pointer (some ⟨g9, 0, none⟩)), ParC.EQ (Value.slice fo bl fcc), ParC.EQ (Value.pointer (some ⟨g9, 1, none⟩)), ParC.EQ (Value.int IntKind.i64 (ks : Int)), ParC.EQ (Value.int IntKind.i64 0), ParC.EQ (Value.int IntKind.i64 (ks : Int)), ParC.EQ (Value.slice fo ks fcc), (fun _ => True), ParC.EQ (Value.pointer (some ⟨g9, 1, none⟩)), ParC.EQ (Value.int IntKind.i64 (ks : Int)), ParC.EQ (Value.int IntKind.i64 0), ParC.EQ (Value.int IntKind.i64 (ks : Int)), (fun _ => True), ParC.EQ (Value.pointer (some (a.add (f * 2)))), fun _ => True]) (by kernel_rfl) (by kernel_rfl) (Rg.Ch.start ⟨fun _ => Ext.draw _, trivial⟩) ?_ ?_
        · refine ⟨fun L ρ w' hR hC hL hd hk => ?_, ?_⟩
          · exact Par.val_of_run rfl ⟨hR.other (by decide), hk.1⟩
          refine ⟨fun L ρ w' hR hC hL hd hk => ?_, ?_⟩
          · obtain ⟨k0, -⟩ := hk
            have e0 : ρ (.tmp 72) = pv r := k0
            clear k0
            refine Par.val_k fun K hK => ?_
            unfold Par.val
            (go_simp; exact hK _ _ ⟨hR.other (by decide), rfl⟩)
          refine ⟨fun L ρ w' hR hC hL hd hk => ?_, ?_⟩
          · obtain ⟨k0, -⟩ := hk
            have e0 : ρ (.tmp 73) = pv r := k0
            clear k0
            refine Par.val_k fun K hK => ?_
            unfold Par.val
            (go_simp; exact hK _ _ ⟨hR.other (by decide), rfl⟩)
          refine ⟨fun L ρ w' hR hC hL hd hk => ?_, ?_⟩
          · obtain ⟨k0, -⟩ := hk
            have e0 : ρ (.tmp 74) = Value.pointer (some ⟨r, 1, none⟩) := k0
            clear k0
            refine Par.val_k fun K hK => ?_
            unfold Par.val
            (obtain ⟨i, hi, hq⟩ := hR.some 3 rfl (hC.notyet 24 3 hL (by kernel_rfl)); have cc := (hq.1 (by omega)).cell C9.out; go_simp; exact hK _ _ ⟨hR.other (by decide), rfl⟩)
          refine ⟨fun L ρ w' hR hC hL hd hk => ?_, ?_⟩
          · exact Par.val_of_run rfl ⟨hR.other (by decide), hk.1⟩
          refine ⟨fun L ρ w' hR hC hL hd hk => ?_, ?_⟩
          · exact Par.val_of_run rfl ⟨hR.other (by decide), hk.1⟩
          refine ⟨fun L ρ w' hR hC hL hd hk => ?_, ?_⟩
          · obtain ⟨k0, k1, -⟩ := hk
            have e0 : ρ (.tmp 76) = Value.slice (some da) dl ec := k0
            have e1 : ρ (.tmp 77) = Value.int IntKind.i64 (q : Int) := k1
            clear k0 k1
            refine Par.val_k fun K hK => ?_
            unfold Par.val
            (go_simp; exact hK _ _ ⟨hR.other (by decide), rfl⟩)
          refine ⟨fun L ρ w' hR hC hL hd hk => ?_, ?_⟩
          · obtain ⟨k0, -⟩ := hk
            have e0 : ρ (.tmp 78) = Value.pointer (some (da.add (q * 2))) := k0
            clear k0
            refine Par.val_k fun K hK => ?_
            unfold Par.val
            (go_simp; exact hK _ _ ⟨hR.other (by decide), rfl⟩)
          refine ⟨fun L ρ w' hR hC hL hd hk => ?_, ?_⟩
          · obtain ⟨k0, -⟩ := hk
            have e0 : ρ (.tmp 79) = Value.pointer (some ⟨(da.add (q * 2)).block, (da.add (q * 2)).off + 1, none⟩) := k0
            clear k0
            refine Par.val_k fun K hK => ?_
            unfold Par.val
            (obtain ⟨i, hi, hq⟩ := hR.some 3 rfl (hC.notyet 24 8 hL (by kernel_rfl)); have cc := (hq.1 (by omega)).cell HENT9.out; go_simp; exact hK _ _ ⟨hR.other (by decide), rfl⟩)
          refine ⟨fun L ρ w' hR hC hL hd hk => ?_, ?_⟩
          · obtain ⟨-⟩ := hk
            skip
            refine Par.val_k fun K hK => ?_
            unfold Par.val
            (obtain ⟨hq, hs⟩ := hR.go 0 rfl hL (.inl rfl) (by decide); have hx := hq.1 (by decide); go_simp; exact hK _ _ ⟨hs _ _ _ ⟨fun _ => hx.trans (Ext.alloc _ _), owns_mono (World.ownsRow_lit (base := w'.heap.size) w' #[] 0 (Nat.le_refl _) (by simp [maxLen]) (by simp)) hx.size⟩, trivial⟩)
          refine ⟨fun L ρ w' hR hC hL hd hk => ?_, ?_⟩
          · obtain ⟨k0, -⟩ := hk
            have e0 : ρ (.tmp 9) = Value.pointer (some ⟨g9, 0, none⟩) := k0
            clear k0
            refine Par.val_k fun K hK => ?_
            unfold Par.val
            (go_simp; exact hK _ _ ⟨hR.other (by decide), rfl⟩)
          refine ⟨fun L ρ w' hR hC hL hd hk => ?_, ?_⟩
          · obtain ⟨k0, -⟩ := hk
            have e0 : ρ (.tmp 82) = Value.pointer (some ⟨g9, 0, none⟩) := k0
            clear k0
            refine Par.val_k fun K hK => ?_
            unfold Par.val
            (obtain ⟨i, hi, hq⟩ := hR.some 3 rfl (hC.notyet 24 11 hL (by kernel_rfl)); have cc := (hq.1 (by omega)).cell GB0.out; go_simp; exact hK _ _ ⟨hR.other (by decide), rfl⟩)
          refine ⟨fun L ρ w' hR hC hL hd hk => ?_, ?_⟩
          · obtain ⟨k0, -⟩ := hk
            have e0 : ρ (.tmp 9) = Value.pointer (some ⟨g9, 0, none⟩) := k0
            clear k0
            refine Par.val_k fun K hK => ?_
            unfold Par.val
            (go_simp; exact hK _ _ ⟨hR.other (by decide), rfl⟩)
          refine ⟨fun L ρ w' hR hC hL hd hk => ?_, ?_⟩
          · obtain ⟨k0, -⟩ := hk
            have e0 : ρ (.tmp 84) = Value.pointer (some ⟨g9, 1, none⟩) := k0
            clear k0
            refine Par.val_k fun K hK => ?_
            unfold Par.val
            (obtain ⟨i, hi, hq⟩ := hR.some 3 rfl (hC.notyet 24 13 hL (by kernel_rfl)); have cc := (hq.1 (by omega)).cell GB1.out; go_simp; exact hK _ _ ⟨hR.other (by decide), rfl⟩)
          refine ⟨fun L ρ w' hR hC hL hd hk => ?_, ?_⟩
          · exact Par.val_of_run rfl ⟨hR.other (by decide), hk.1⟩
          refine ⟨fun L ρ w' hR hC hL hd hk => ?_, ?_⟩
          · obtain ⟨k0, k1, -⟩ := hk
            have e0 : ρ (.tmp 85) = Value.int IntKind.i64 (ks : Int) := k0
            have e1 : ρ (.tmp 86) = Value.int IntKind.i64 0 := k1
            clear k0 k1
            refine Par.val_k fun K hK => ?_
            unfold Par.val
            (have hwr : IntKind.i64.wrap (ks : Int) = (ks : Int) := IntWalk.i64_in _ (by omega); go_simp; exact hK _ _ ⟨hR.other (by decide), rfl⟩)
          refine ⟨fun L ρ w' hR hC hL hd hk => ?_, ?_⟩
          · obtain ⟨k0, k1, -⟩ := hk
            have e0 : ρ (.tmp 83) = Value.slice fo bl fcc := k0
            have e1 : ρ (.tmp 87) = Value.int IntKind.i64 (ks : Int) := k1
            clear k0 k1
            refine Par.val_k fun K hK => ?_
            unfold Par.val
            (go_simp; exact hK _ _ ⟨hR.other (by decide), rfl⟩)
          refine ⟨fun L ρ w' hR hC hL hd hk => ?_, ?_⟩
          · obtain ⟨k0, k1, -⟩ := hk
            have e0 : (fun _ => True) (ρ (.tmp 81))  := k0
            have e1 : ρ (.tmp 88) = Value.slice fo ks fcc := k1
            clear k0 k1
            refine Par.val_k fun K hK => ?_
            unfold Par.val
            (obtain ⟨hq, hs⟩ := hR.go 1 rfl hL (.inr ⟨9, rfl, hC.before 9 (i := 17) rfl hd (by kernel_rfl)⟩) (by decide); have hx := hq.1 (by decide); have ho : Own w' w9.heap.size 5 (ρ (.tmp 81)) [] := hq.2; have hby := byt_take (HOW9.out.byt.ext hx) ks (by rw [HBLE.out]; omega); obtain ⟨v', w3, r1, r2, r3⟩ := run_app_b w9 37 hx ho hby (by simp; omega); rw [← e1] at r1; have r2' : Own w3 w9.heap.size 5 v' (bs.take ks) := (by simpa using r2); exact Par.val_append r1 (hK _ _ ⟨hs _ _ _ ⟨fun _ => r3, r2'⟩, trivial⟩))
          refine ⟨fun L ρ w' hR hC hL hd hk => ?_, ?_⟩
          · obtain ⟨k0, -⟩ := hk
            have e0 : ρ (.tmp 9) = Value.pointer (some ⟨g9, 0, none⟩) := k0
            clear k0
            refine Par.val_k fun K hK => ?_
            unfold Par.val
            (go_simp; exact hK _ _ ⟨hR.other (by decide), rfl⟩)
          refine ⟨fun L ρ w' hR hC hL hd hk => ?_, ?_⟩
          · obtain ⟨k0, -⟩ := hk
            have e0 : ρ (.tmp 90) = Value.pointer (some ⟨g9, 1, none⟩) := k0
            clear k0
            refine Par.val_k fun K hK => ?_
            unfold Par.val
            (obtain ⟨i, hi, hq⟩ := hR.some 3 rfl (hC.notyet 24 19 hL (by kernel_rfl)); have cc := (hq.1 (by omega)).cell GB1.out; go_simp; exact hK _ _ ⟨hR.other (by decide), rfl⟩)
          refine ⟨fun L ρ w' hR hC hL hd hk => ?_, ?_⟩
          · exact Par.val_of_run rfl ⟨hR.other (by decide), hk.1⟩
          refine ⟨fun L ρ w' hR hC hL hd hk => ?_, ?_⟩
          · obtain ⟨k0, k1, -⟩ := hk
            have e0 : ρ (.tmp 91) = Value.int IntKind.i64 (ks : Int) := k0
            have e1 : ρ (.tmp 92) = Value.int IntKind.i64 0 := k1
            clear k0 k1
            refine Par.val_k fun K hK => ?_
            unfold Par.val
            (have hwr : IntKind.i64.wrap (ks : Int) = (ks : Int) := IntWalk.i64_in _ (by omega); go_simp; exact hK _ _ ⟨hR.other (by decide), rfl⟩)
          refine ⟨fun L ρ w' hR hC hL hd hk => ?_, ?_⟩
          · obtain ⟨k0, k1, -⟩ := hk
            have e0 : (fun _ => True) (ρ (.tmp 89))  := k0
            have e1 : ρ (.tmp 93) = Value.int IntKind.i64 (ks : Int) := k1
            clear k0 k1
            refine Par.val_k fun K hK => ?_
            unfold Par.val
            (obtain ⟨hq, hs⟩ := hR.go 2 rfl hL (.inr ⟨17, rfl, hC.before 17 (i := 22) rfl hd (by kernel_rfl)⟩) (by decide); have hx := hq.1 (by decide); have ho : Own w' w9.heap.size 5 (ρ (.tmp 89)) (bs.take ks) := hq.2; obtain ⟨o6, c6, h6⟩ := row_slN ho; obtain ⟨n6, hn6⟩ : ∃ k, (bs.take ks).length = k := ⟨_, rfl⟩; rw [hn6] at h6; have e4 : ρ (.tmp 89) = .slice o6 n6 c6 := h6; clear hn6; go_simp; exact hK _ _ ⟨hs _ _ _ ⟨fun _ => hx, ho, by show _ = Value.agg #[ρ (.tmp 89), _]; rw [e4]; rfl⟩, trivial⟩)
          refine ⟨fun L ρ w' hR hC hL hd hk => ?_, ?_⟩
          · obtain ⟨k0, k1, -⟩ := hk
            have e0 : ρ (.tmp 75) = Value.slice (some a) nf fcap := k0
            have e1 : ρ (.tmp 80) = Value.int IntKind.i64 (f : Int) := k1
            clear k0 k1
            refine Par.val_k fun K hK => ?_
            unfold Par.val
            (go_simp; exact hK _ _ ⟨hR.other (by decide), rfl⟩)
          refine ⟨fun L ρ w' hR hC hL hd hk => ?_, ?_⟩
          · obtain ⟨k0, k1, -⟩ := hk
            have e0 : ρ (.tmp 95) = Value.pointer (some (a.add (f * 2))) := k0
            have e1 : (fun _ => True) (ρ (.tmp 94))  := k1
            clear k0 k1
            refine Par.val_k fun K hK => ?_
            unfold Par.val
            (obtain ⟨hq, hs⟩ := hR.go 3 rfl hL (.inr ⟨22, rfl, hC.before 22 (i := 24) rfl hd (by kernel_rfl)⟩) (by decide); have hx := hq.1 (by decide); have ho : Own w' w9.heap.size 5 (ρ (.tmp 89)) (bs.take ks) := hq.2.1; obtain ⟨o6, c6, h6⟩ := row_slN ho; obtain ⟨n6, hn6⟩ : ∃ k, (bs.take ks).length = k := ⟨_, rfl⟩; rw [hn6] at h6; have e6 : ρ (.tmp 89) = .slice o6 n6 c6 := h6; have e4 : ρ (.tmp 94) = .agg #[.slice o6 n6 c6, .int .i64 (ks : Int)] := (by have h8 : ρ (.tmp 94) = .agg #[ρ (.tmp 89), .int .i64 ((ks : Nat) : Int)] := hq.2.2; rw [h8, e6]; try simp); have hfc := HFC9.out.ext hx; have cc := hfc.c0; have cc1 := hfc.c1; have ff := hfc.f0; have ff1 := hfc.f1; have hr0 := ((H9.out.ext hx).set0 HFL1.out (HVF.out.trans (by rw [HAG.out])) (bs.take ks) (.slice o6 n6 c6) (by rw [← e6]; exact owns_mono ho HWB.out)); have hr1 := hr0.1.set1 (f := f) (by show f < (fk.set f _).length; rw [List.length_set]; exact HFL1.out) (HVF.out.trans (by rw [HAG.out])) ks; have hadr : Hid (a.add (f * 2) = ⟨g, f * 2, none⟩) := hid (by rw [HAG.out, addr0]); have hadr2 : Hid ((⟨(a.add (f * 2)).block, (a.add (f * 2)).off + 1, none⟩ : Addr) = ⟨g, f * 2 + 1, none⟩) := hid (by rw [HAG.out, addr0]); have HR0 := hid hr0; have HR1 := hid hr1; have hlen8 : f < (fk.set f (bs.take ks, (fk[f]'HFL1.out).2)).length := (by rw [List.length_set]; exact HFL1.out); obtain ⟨g8, cap8, q1, -, -, -, -, q6, q7⟩ := hr0.1.at hlen8; have hg8 : g8 = g := (by have h7 := HVF.out; rw [HAG.out] at h7; rw [show x.vf = _ from h7] at q1; simp at q1; exact q1.1.symm); have cc2 : (w'.setCell (a.add (f * 2)) (.slice o6 n6 c6)).cell? ⟨(a.add (f * 2)).block, (a.add (f * 2)).off + 1, none⟩ = some (.int .i64 (((fk.set f (bs.take ks, (fk[f]'HFL1.out).2))[f]'hlen8).2 : Int)) := (by rw [hadr2.out, hadr.out, ← hg8]; rw [← hg8] at q6; exact q6); have ff2 : (w'.setCell (a.add (f * 2)) (.slice o6 n6 c6)).frozen? ⟨(a.add (f * 2)).block, (a.add (f * 2)).off + 1, none⟩ = false := (by rw [hadr2.out, hadr.out, ← hg8]; rw [← hg8] at q7; exact q7 _); clear hfc hn6 hr0 hr1 q1 q6 q7 hg8; go_simp; rw [hadr2.out, hadr.out]; exact hK _ _ ⟨hs none _ _ ⟨fun h => absurd h (by decide), _, by have h7 := HR1.out; simp only [List.set_set, List.getElem_set_self] at h7; exact ⟨by simpa using h7.1, (by rw [← e6]; exact row_lo ho), (Ext.fr hx).trans (HR0.out.2.trans (by simpa using h7.2))⟩⟩, trivial⟩)
          trivial
        intro a' w' inv hR
        have q72 : a'.tmps.getD 72 undef = pv r := inv.done 0 _ 72 rfl rfl rfl
        have q73 : a'.tmps.getD 73 undef = pv r := inv.done 1 _ 73 rfl rfl rfl
        have q74 : a'.tmps.getD 74 undef = Value.pointer (some ⟨r, 1, none⟩) := inv.done 2 _ 74 rfl rfl rfl
        have q75 : a'.tmps.getD 75 undef = Value.slice (some a) nf fcap := inv.done 3 _ 75 rfl rfl rfl
        have q76 : a'.tmps.getD 76 undef = Value.slice (some da) dl ec := inv.done 4 _ 76 rfl rfl rfl
        have q77 : a'.tmps.getD 77 undef = Value.int IntKind.i64 (q : Int) := inv.done 5 _ 77 rfl rfl rfl
        have q78 : a'.tmps.getD 78 undef = Value.pointer (some (da.add (q * 2))) := inv.done 6 _ 78 rfl rfl rfl
        have q79 : a'.tmps.getD 79 undef = Value.pointer (some ⟨(da.add (q * 2)).block, (da.add (q * 2)).off + 1, none⟩) := inv.done 7 _ 79 rfl rfl rfl
        have q80 : a'.tmps.getD 80 undef = Value.int IntKind.i64 (f : Int) := inv.done 8 _ 80 rfl rfl rfl
        have q81 : (fun _ => True) (a'.tmps.getD 81 undef)  := inv.done 9 _ 81 rfl rfl rfl
        have q82 : a'.tmps.getD 82 undef = Value.pointer (some ⟨g9, 0, none⟩) := inv.done 10 _ 82 rfl rfl rfl
        have q83 : a'.tmps.getD 83 undef = Value.slice fo bl fcc := inv.done 11 _ 83 rfl rfl rfl
        have q84 : a'.tmps.getD 84 undef = Value.pointer (some ⟨g9, 1, none⟩) := inv.done 12 _ 84 rfl rfl rfl
        have q85 : a'.tmps.getD 85 undef = Value.int IntKind.i64 (ks : Int) := inv.done 13 _ 85 rfl rfl rfl
        have q86 : a'.tmps.getD 86 undef = Value.int IntKind.i64 0 := inv.done 14 _ 86 rfl rfl rfl
        have q87 : a'.tmps.getD 87 undef = Value.int IntKind.i64 (ks : Int) := inv.done 15 _ 87 rfl rfl rfl
        have q88 : a'.tmps.getD 88 undef = Value.slice fo ks fcc := inv.done 16 _ 88 rfl rfl rfl
        have q89 : (fun _ => True) (a'.tmps.getD 89 undef)  := inv.done 17 _ 89 rfl rfl rfl
        have q90 : a'.tmps.getD 90 undef = Value.pointer (some ⟨g9, 1, none⟩) := inv.done 18 _ 90 rfl rfl rfl
        have q91 : a'.tmps.getD 91 undef = Value.int IntKind.i64 (ks : Int) := inv.done 19 _ 91 rfl rfl rfl
        have q92 : a'.tmps.getD 92 undef = Value.int IntKind.i64 0 := inv.done 20 _ 92 rfl rfl rfl
        have q93 : a'.tmps.getD 93 undef = Value.int IntKind.i64 (ks : Int) := inv.done 21 _ 93 rfl rfl rfl
        have q94 : (fun _ => True) (a'.tmps.getD 94 undef)  := inv.done 22 _ 94 rfl rfl rfl
        have q95 : a'.tmps.getD 95 undef = Value.pointer (some (a.add (f * 2))) := inv.done 23 _ 95 rfl rfl rfl
        clear inv
        simp only [List.filterMap_cons, List.filterMap_nil, Par.putAll, Act.put, List.setIfInBounds_toArray, List.set_cons_succ, List.set_cons_zero, q72, q73, q74, q75, q76, q77, q78, q79, q80, q82, q83, q84, q85, q86, q87, q88, q90, q91, q92, q93, q95]
        clear q72 q73 q74 q75 q76 q77 q78 q79 q80 q82 q83 q84 q85 q86 q87 q88 q90 q91 q92 q93 q95
        obtain ⟨-, v5, hrd, hnw, hf⟩ := Rg.Ch.fin hR (by decide) 4 rfl; have HRD := hid hrd; have HNW := hid hnw; have HF2 := hid hf; clear hrd hf hnw hR
        generalize a'.tmps.getD 81 undef = u81 at *
        generalize a'.tmps.getD 89 undef = u89 at *
        generalize a'.tmps.getD 94 undef = u94 at *
        try clear a'
        go_wp2
        go_roundw
        case rel =>
          refine ⟨q + 1, fv.set f v5, by omega, by go_num, ?_, hid (HNV.out.trans (Nw.set (n := w.heap.size) fun q hq => Nat.le_trans (Nat.le_trans HF.out.size HX8.out.size) (HNW.out q hq)) (Nat.le_refl _)), ?_, ?_⟩
          · have h7 := HRD.out
            refine hid ?_
            rw [HSTEP.out, modify_set _ _ HFL1.out, HNEW.out, show crF (ts.getD q 0) (bs, ks) = (bs.take ks, ks) from HCF.out]
            exact h7
          · exact hid ((HF.out.trans (Ext.fr HX8.out)).trans HF2.out)
          · refine hid (ownsRow_fr2 (HX8.out.owns HO.out) HF2.out ?_)
            intro y hy
            rcases List.mem_cons.1 hy with rfl | hy
            · exact ⟨_, H9.out.hd, by intro cs e; simp at e⟩
            · exact own_blk H9.out.fr (by decide) y hy
        case measure => simp [intOf]; omega
    · obtain rfl : q = dl := by omega
      go_wp2
      go_returns
      refine ⟨⟨_, rfl⟩, ?_, HF.out⟩
      have := HR.out
      rw [← HDL.out, List.take_length] at this
      rw [HCR.out]
      exact ⟨_, this, HNV.out⟩
end Go.Proofs.YtijpokajhjhllaaGreatDoor

set_option linter.unusedSimpArgs false
set_option linter.unusedVariables false
namespace Go.Proofs.YtijpokajhjhllaaGreatDoor
open Go Go.RowKit Go.Tum Go.ChangeMaps

theorem Dk.kind {B : Nat} {w : World} {p : Nat} {x : DX} {s : PS} (h : Dk B w p x s) : ∀ q ∈ x.blk p, ∃ o, w.heap[q]? = some o ∧ ∀ cs e, (e = 65 ∨ e = 98 ∨ e = 72 ∨ e = 100) → o ≠ .cells cs e (0, 0) := by
  intro q hq
  have key : ∀ (t : Nat) (cs : Array Value), (t ≠ 65 ∧ t ≠ 98 ∧ t ≠ 72 ∧ t ≠ 100) → ∀ cs2 e, (e = 65 ∨ e = 98 ∨ e = 72 ∨ e = 100) → Obj.cells cs t (0, 0) ≠ .cells cs2 e (0, 0) := by
    intro t cs ht cs2 e he hc
    simp at hc
    obtain ⟨-, hte⟩ := hc
    obtain ⟨h1, h2, h3, h4⟩ := ht
    rcases he with h | h | h | h <;> (rw [h] at hte; contradiction)
  simp only [DX.blk, List.mem_cons, List.mem_append, List.mem_flatMap] at hq
  rcases hq with rfl | rfl | rfl | (h1 | h1) | ⟨z, hz, h1⟩
  · exact ⟨_, h.hd, key _ _ (by decide)⟩
  · obtain ⟨es, ck, hb⟩ := h.dr.block
    exact ⟨_, hb, fun cs e _ hc => by cases hc⟩
  · obtain ⟨es, ck, hb⟩ := h.sr.block
    exact ⟨_, hb, fun cs e _ hc => by cases hc⟩
  · rcases h.op.2 with ⟨hv, -⟩ | ⟨g, cap, cur, hv, hb, hgg, rest⟩
    · rw [hv] at h1; simp [oB, Value.ownBlock] at h1
    · rw [hv] at h1
      simp [oB, Value.ownBlock] at h1
      subst h1
      exact ⟨_, hgg, key _ _ (by decide)⟩
  · obtain ⟨z, hz, rfl⟩ := List.mem_map.1 h1
    obtain ⟨i, hi, e⟩ := List.mem_iff_getElem.1 hz
    have hi2 : i < s.files.length := by rw [← h.fn]; exact hi
    have := (h.fi i hi2).1
    have e2 : x.bk i = z.1 := by simp [DX.bk, List.getD_eq_getElem?_getD, hi, e]
    rw [e2] at this
    exact ⟨_, this, key _ _ (by decide)⟩
  · obtain ⟨i, hi, e⟩ := List.mem_iff_getElem.1 hz
    have hi2 : i < s.files.length := by rw [← h.fn]; exact hi
    have h2 := (h.fi i hi2).2
    have e2 : x.sv i = z.2 := by simp [DX.sv, List.getD_eq_getElem?_getD, hi, e]
    rw [e2] at h2
    rcases h2.2 with ⟨hv, -⟩ | ⟨g, cap, cur, hv, hb, hgg, rest⟩
    · rw [hv] at h1; simp [oB, Value.ownBlock] at h1
    · rw [hv] at h1
      simp [oB, Value.ownBlock] at h1
      subst h1
      exact ⟨_, hgg, key _ _ (by decide)⟩
section
variable {B : Nat} {w w' : World} {p r : Nat} {x : DX} {y : RX} {s s2 : PS}
theorem row_kind {b e sz n : Nat} {v : Value} {xs : List Value} (h : w.ownsRow b e sz v n xs) : ∀ q ∈ oB v, ∃ cs, w.heap[q]? = some (.cells cs e (0, 0)) := by
  intro q hq
  rcases h.2 with ⟨hv, -⟩ | ⟨g, cap, cur, hv, hb, hgg, rest⟩
  · rw [hv] at hq; simp [oB, Value.ownBlock] at hq
  · rw [hv] at hq
    simp [oB, Value.ownBlock] at hq
    subst hq
    exact ⟨_, hgg⟩
/-- The document's disk stays where the other one turns. -/
theorem RD.keep (h : RD B w r y s) (D : Dk B w p x s2) (J : ∀ q ∈ x.blk p, ∀ v ∈ y.fv, q ∉ oB v) (f : Fr (x.blk p) w w') : RD B w' r y s := by
  have hno : ∀ q ∈ x.blk p, ∀ e, (e = 65 ∨ e = 98 ∨ e = 72 ∨ e = 100) → ∀ cs, w.heap[q]? ≠ some (.cells cs e (0, 0)) := fun q hq e he cs hc => by
    obtain ⟨o, ho, hn⟩ := D.kind q hq
    rw [ho] at hc; cases hc
    exact hn cs e he rfl
  have hrow : ∀ {e sz n : Nat} {v : Value} {xs : List Value}, (e = 65 ∨ e = 98 ∨ e = 72 ∨ e = 100) → w.ownsRow B e sz v n xs → w'.ownsRow B e sz v n xs := fun he h => ownsRow_fr h f fun q hq hm => by
    obtain ⟨cs, hc⟩ := row_kind h q hq
    exact hno q hm _ he cs hc
  refine ⟨(f.block r (Array.getElem?_eq_some_iff.1 h.hd).1 fun hm => hno r hm _ (.inl rfl) _ h.hd).trans h.hd, h.fn, hrow (.inr (.inl rfl)) h.fr, fun i hi => ownsRow_fr (h.fb i hi) f fun q hq hm => ?_, h.dn, hrow (.inr (.inr (.inl rfl))) h.dr, fun k hk => hrow (.inr (.inr (.inr rfl))) (h.dd k hk), h.lo⟩
  exact J q hm _ (getD_mem (by rw [h.fn]; exact hi)) hq
theorem RD.fv_lt (h : RD B w r y s) : ∀ v ∈ y.fv, ∀ q ∈ oB v, q < w.heap.size := by
  intro v hv q hq
  obtain ⟨i, hi, rfl⟩ := List.mem_iff_getElem.1 hv
  have h1 := h.fb i (by rw [← h.fn]; exact hi)
  rw [List.getD_eq_getElem?_getD, List.getElem?_eq_getElem hi] at h1
  obtain ⟨cs, hc⟩ := row_kind h1 q hq
  exact (Array.getElem?_eq_some_iff.1 hc).1
theorem Dk.keep (D : Dk B w p x s2) (h : RD B w r y s) (f : Fr (r :: oB y.vf) w w') : Dk B w' p x s2 := D.fr f fun q hq hm => by
  obtain ⟨o, ho, hn⟩ := D.kind q hq
  rcases List.mem_cons.1 hm with rfl | hm
  · rw [h.hd] at ho; cases ho; exact hn _ _ (.inl rfl) rfl
  · obtain ⟨cs, hc⟩ := row_kind h.fr q hm
    rw [hc] at ho; cases ho; exact hn _ _ (.inr (.inl rfl)) rfl
end
theorem Nw.mono {n m : Nat} {a b : List Value} (h : Nw m a b) (hn : n ≤ m) : Nw n a b := fun q hq => (h q hq).imp id (fun k => Nat.le_trans hn k)
end Go.Proofs.YtijpokajhjhllaaGreatDoor

set_option linter.unusedSimpArgs false
set_option linter.unusedVariables false
namespace Go.Proofs.YtijpokajhjhllaaGreatDoor
open Go Go.RowKit Go.Tum Go.ChangeMaps
open Go.ParB (upd Lof)
open Go.ParE (putS slotsR slots Closed)

/-- No block of the document's disk that an act turns. -/
def NkO (o : Obj) : Prop := ∀ cs e, (e = 65 ∨ e = 98) → o ≠ .cells cs e (0, 0)
/-- No block of the document's disk at all. -/
def NkS (o : Obj) : Prop := ∀ cs e, (e = 65 ∨ e = 98 ∨ e = 72 ∨ e = 100 ∨ e = 5) → o ≠ .cells cs e (0, 0)
/-- Both disks, and the boxes K. -/
structure BDx (B : Nat) (w : World) (p : Nat) (x : DX) (s : PS) (r : Nat) (y : RX) (t : PS) (K : List (Nat × Obj)) : Prop where
  d : Dk B w p x s
  g : RD B w r y t
  j : ∀ q ∈ x.blk p, ∀ v ∈ y.fv, q ∉ oB v
  k : ∀ z ∈ K, w.heap[z.1]? = some z.2 ∧ z.1 ∉ x.blk p ∧ NkO z.2
  b : B ≤ w.heap.size
def BDE (B : Nat) (w : World) (p : Nat) (s : PS) (r : Nat) (t : PS) (K : List (Nat × Obj)) : Prop := ∃ x y, BDx B w p x s r y t K
section
variable {B : Nat} {w w' : World} {p r : Nat} {s t : PS} {K K' : List (Nat × Obj)}
theorem BDE.base (h : BDE B w p s r t K) : B ≤ w.heap.size := by obtain ⟨x, y, h⟩ := h; exact h.b
theorem BDE.ext (h : BDE B w p s r t K) (k : Ext w w') : BDE B w' p s r t K := by
  obtain ⟨x, y, h⟩ := h
  exact ⟨x, y, h.d.ext k, h.g.ext k, h.j, fun z hz => ⟨k.obj (h.k z hz).1, (h.k z hz).2⟩, Nat.le_trans h.b k.size⟩
theorem BDE.box (h : BDE B w p s r t K) {b : Nat} {o : Obj} (hm : (b, o) ∈ K) : w.heap[b]? = some o := by obtain ⟨x, y, h⟩ := h; exact (h.k _ hm).1
theorem BDE.less (h : BDE B w p s r t K) (hK : ∀ z ∈ K', z ∈ K) : BDE B w p s r t K' := by
  obtain ⟨x, y, h⟩ := h
  exact ⟨x, y, h.d, h.g, h.j, fun z hz => h.k z (hK z hz), h.b⟩
/-- A new box. -/
theorem BDE.add (h : BDE B w p s r t K) (k : Ext w w') {b : Nat} {o : Obj} (hb : w'.heap[b]? = some o) (hl : w.heap.size ≤ b) (hn : NkO o) : BDE B w' p s r t ((b, o) :: K) := by
  obtain ⟨x, y, h⟩ := h
  refine ⟨x, y, h.d.ext k, h.g.ext k, h.j, fun z hz => ?_, Nat.le_trans h.b k.size⟩
  rcases List.mem_cons.1 hz with rfl | hz
  · exact ⟨hb, fun hm => by have := h.d.lt _ hm; omega, hn⟩
  · exact ⟨k.obj (h.k z hz).1, (h.k z hz).2⟩
theorem nk_notG {y : RX} (g : RD B w r y t) {b : Nat} {o : Obj} (hb : w.heap[b]? = some o) (hn : NkO o) : b ∉ r :: oB y.vf := fun hm => by
  rcases List.mem_cons.1 hm with rfl | hm
  · rw [g.hd] at hb; cases hb; exact hn _ _ (.inl rfl) rfl
  · obtain ⟨cs, hc⟩ := row_kind g.fr _ hm
    rw [hc] at hb; cases hb; exact hn _ _ (.inr rfl) rfl
/-- The code's disk turns. -/
theorem BDx.dstep {x : DX} {y : RX} (h : BDx B w p x s r y t K) {s' : PS} (k : Stp B w p x s' w') : BDE B w' p s' r t K ∧ Below B w w' := by
  obtain ⟨x', D', F, L, g⟩ := k
  refine ⟨⟨x', y, D', h.g.keep h.d h.j F, fun q hq v hv hm => ?_, fun z hz => ?_, Nat.le_trans h.b L.size⟩, L⟩
  · rcases g q hq with h1 | h1
    · exact h.j q h1 v hv hm
    · have := h.g.fv_lt v hv q hm; omega
  · have h1 := h.k z hz
    have hlt := (Array.getElem?_eq_some_iff.1 h1.1).1
    refine ⟨(F.block z.1 hlt h1.2.1).trans h1.1, fun hm => ?_, h1.2.2⟩
    rcases g _ hm with h2 | h2
    · exact h1.2.1 h2
    · omega
/-- The document's disk turns. -/
theorem BDx.gstep {x : DX} {y : RX} (h : BDx B w p x s r y t K) {t' : PS} (k : (∃ y', RD B w' r y' t' ∧ Nw w.heap.size y.fv y'.fv) ∧ Fr (r :: oB y.vf) w w') : BDE B w' p s r t' K ∧ Below B w w' := by
  obtain ⟨⟨y', G', N⟩, F⟩ := k
  have L := F.below h.g.rg h.b
  refine ⟨⟨x, y', h.d.keep h.g F, G', fun q hq v hv hm => ?_, fun z hz => ?_, Nat.le_trans h.b L.size⟩, L⟩
  · rcases N q ⟨v, hv, hm⟩ with ⟨v1, h1, h2⟩ | h1
    · exact h.j q hq v1 h1 h2
    · have := h.d.lt q hq; omega
  · have h1 := h.k z hz
    have hlt := (Array.getElem?_eq_some_iff.1 h1.1).1
    exact ⟨(F.block z.1 hlt (nk_notG h.g h1.1 h1.2.2)).trans h1.1, h1.2⟩
/-- A box turns. -/
theorem BDE.turn (h : BDE B w p s r t K) {b : Nat} {o o' : Obj} (hm : (b, o) ∈ K) (F : Fr [b] w w') (hb : w'.heap[b]? = some o') (hn : NkO o') (hs : NkS o) (hB : B ≤ b) (hK : ∀ z ∈ K', z = (b, o') ∨ (z ∈ K ∧ z.1 ≠ b)) : BDE B w' p s r t K' ∧ Below B w w' := by
  obtain ⟨x, y, h⟩ := h
  have hk := h.k _ hm
  have L := F.below (B := B) (fun q hq => by rw [List.mem_singleton.1 hq]; exact hB) h.b
  have hd : Dk B w' p x s := h.d.fr F (fun q hq hm2 => hk.2.1 (by rw [← List.mem_singleton.1 hm2]; exact hq))
  have hrow : ∀ {e sz n : Nat} {v : Value} {xs : List Value}, (e = 65 ∨ e = 98 ∨ e = 72 ∨ e = 100 ∨ e = 5) → w.ownsRow B e sz v n xs → w'.ownsRow B e sz v n xs := fun he h2 => ownsRow_fr h2 F fun q hq hm2 => by
    obtain ⟨cs, hc⟩ := row_kind h2 q hq
    rw [List.mem_singleton.1 hm2, hk.1] at hc
    exact hs _ _ he (by simpa using hc)
  have hr : r ≠ b := fun e => by
    have h2 := h.g.hd
    rw [e, hk.1] at h2
    exact hs _ _ (.inl rfl) (by simpa using h2)
  have hg : RD B w' r y t := ⟨(F.block r (Array.getElem?_eq_some_iff.1 h.g.hd).1 (by simpa using hr)).trans h.g.hd, h.g.fn, hrow (.inr (.inl rfl)) h.g.fr, fun i hi => hrow (.inr (.inr (.inr (.inr rfl)))) (h.g.fb i hi), h.g.dn, hrow (.inr (.inr (.inl rfl))) h.g.dr, fun k hk2 => hrow (.inr (.inr (.inr (.inl rfl)))) (h.g.dd k hk2), h.g.lo⟩
  refine ⟨⟨x, y, hd, hg, h.j, fun z hz => ?_, Nat.le_trans h.b L.size⟩, L⟩
  rcases hK z hz with rfl | ⟨hz, hne⟩
  · exact ⟨hb, hk.2.1, hn⟩
  · have h1 := h.k z hz
    exact ⟨(F.block z.1 (Array.getElem?_eq_some_iff.1 h1.1).1 (by simpa using hne)).trans h1.1, h1.2⟩
/-- A call on the code's disk. -/
theorem BDE.code (h : BDE B w p s r t K) {f : Nat} {args : Array Value} {c : Nat × PS} (hc : ∀ x, Dk B w p x s → Calls Tryz.prog f args w fun e w' => DoR B w p x c e w') :
    Calls Tryz.prog f args w fun e w' => e = .returned (.int .i64 (c.1 : Nat)) ∧ BDE B w' p c.2 r t K ∧ Below B w w' := by
  obtain ⟨x, y, h⟩ := h
  refine (hc x h.d).mono ?_
  rintro e w' ⟨h1, h2⟩
  exact ⟨h1, h.dstep h2⟩
theorem BDE.codeU (h : BDE B w p s r t K) {f : Nat} {args : Array Value} {s' : PS} (hc : ∀ x, Dk B w p x s → Calls Tryz.prog f args w fun e w' => (∃ u, e = .returned u) ∧ Stp B w p x s' w') :
    Calls Tryz.prog f args w fun e w' => (∃ u, e = .returned u) ∧ BDE B w' p s' r t K ∧ Below B w w' := by
  obtain ⟨x, y, h⟩ := h
  refine (hc x h.d).mono ?_
  rintro e w' ⟨h1, h2⟩
  exact ⟨h1, h.dstep h2⟩
/-- A call on the document's disk. -/
theorem BDE.doc (h : BDE B w p s r t K) {f : Nat} {args : Array Value} {c : Nat × PS} (hc : ∀ y, RD B w r y t → Calls Tryz.prog f args w fun e w' => RDo B w r y c e w') :
    Calls Tryz.prog f args w fun e w' => e = .returned (.int .i64 (c.1 : Nat)) ∧ BDE B w' p s r c.2 K ∧ Below B w w' := by
  obtain ⟨x, y, h⟩ := h
  refine (hc y h.g).mono ?_
  rintro e w' ⟨h1, h2, h3⟩
  exact ⟨h1, h.gstep ⟨h2, h3⟩⟩
theorem BDE.docU (h : BDE B w p s r t K) {f : Nat} {args : Array Value} {t' : PS} (hc : ∀ y, RD B w r y t → Calls Tryz.prog f args w fun e w' => (∃ u, e = .returned u) ∧ (∃ y', RD B w' r y' t' ∧ Nw w.heap.size y.fv y'.fv) ∧ Fr (r :: oB y.vf) w w') :
    Calls Tryz.prog f args w fun e w' => (∃ u, e = .returned u) ∧ BDE B w' p s r t' K ∧ Below B w w' := by
  obtain ⟨x, y, h⟩ := h
  refine (hc y h.g).mono ?_
  rintro e w' ⟨h1, h2, h3⟩
  exact ⟨h1, h.gstep ⟨h2, h3⟩⟩
theorem BDE.dk (h : BDE B w p s r t K) : ∃ x, Dk B w p x s := by obtain ⟨x, y, h⟩ := h; exact ⟨x, h.d⟩
theorem BDE.rd (h : BDE B w p s r t K) : ∃ y, RD B w r y t := by obtain ⟨x, y, h⟩ := h; exact ⟨y, h.g⟩
end
end Go.Proofs.YtijpokajhjhllaaGreatDoor

set_option linter.unusedVariables false
namespace Go.Rg
open Go.RowKit Go.Tum
open Go.ParB (upd Lof)
open Go.ParE (putS slotsR slots Closed)
structure Tw (ka kb : Nat) (Q : Bool → Bool → World → Prop) (L : Nat → Bool) (w : World) : Prop where
  q : Q (L ka) (L kb) w
section
variable {w w' : World} {ka kb : Nat} {Q : Bool → Bool → World → Prop} {L : Nat → Bool}
theorem Tw.start (h : Q false false w) : Tw ka kb Q (fun _ => false) w := ⟨h⟩
theorem Tw.other (h : Tw ka kb Q L w) {i : Nat} (hi : ka ≠ i ∧ kb ≠ i) : Tw ka kb Q (upd L i) w := ⟨by rw [updN hi.1, updN hi.2]; exact h.q⟩
theorem Tw.grow (h : Tw ka kb Q L w) {i : Nat} (hi : ka ≠ i ∧ kb ≠ i) (hq : ∀ a b, Q a b w → Q a b w') : Tw ka kb Q (upd L i) w' := ⟨by rw [updN hi.1, updN hi.2]; exact hq _ _ h.q⟩
theorem Tw.a (h : Tw ka kb Q L w) (ha : L ka = false) (hi : kb ≠ ka) (hq : ∀ b, Q false b w → Q true b w') : Tw ka kb Q (upd L ka) w' := by
  refine ⟨?_⟩
  rw [updE, updN hi]
  have := h.q
  rw [ha] at this
  exact hq _ this
theorem Tw.b (h : Tw ka kb Q L w) (hb : L kb = false) (hi : ka ≠ kb) (hq : ∀ a, Q a false w → Q a true w') : Tw ka kb Q (upd L kb) w' := by
  refine ⟨?_⟩
  rw [updE, updN hi]
  have := h.q
  rw [hb] at this
  exact hq _ this
theorem Tw.ax (hi : kb ≠ ka) (hq : Q true (L kb) w') : Tw ka kb Q (upd L ka) w' := ⟨by rw [updE, updN hi]; exact hq⟩
theorem Tw.bx (hi : ka ≠ kb) (hq : Q (L ka) true w') : Tw ka kb Q (upd L kb) w' := ⟨by rw [updE, updN hi]; exact hq⟩
theorem Tw.fin {m : Nat} (h : Tw ka kb Q (Lof (Array.replicate m true)) w) (ha : ka < m) (hb : kb < m) : Q true true w := by
  have := h.q
  unfold Lof at this
  simpa [Array.getElem?_replicate, ha, hb] using this
end
end Go.Rg

