/- Both Reads of a root, whatever lies there.
The root, whatever lies there: mathematics.
The document's rights of a root.
The document's There and Write of a root. -/
import Derived.Test.YtijpokajhjhllaaGreatDoorRotM
import Derived.Test.YtijpokajhjhllaaGreatDoorRecM
import Derived.Test.YtijpokajhjhllaaGreatDoorDskLm
import Derived.Test.YtijpokajhjhllaaGreatDoorRotA
import Derived.Test.YtijpokajhjhllaaGreatDoorRotMD
import Derived.Test.YtijpokajhjhllaaGreatDoorDskMD
import Derived.Test.YtijpokajhjhllaaGreatDoorRecMG
import Derived.Laws.Rows
import Derived.Laws.Tables
set_option linter.unusedSimpArgs false
set_option linter.unusedVariables false
namespace Go.Proofs.YtijpokajhjhllaaGreatDoor
open Go Go.RowKit Go.Tum Go.Tum.Crc

/-- What Read answers. -/
def rdAll (s : PS) : Rt × Int := if rdE s nRoot = 0 then rdRec (rall 0 (rdB s nRoot)) else (rt0, (rdE s nRoot : Int))
theorem rallF_right : ∀ (n k : Nat) (b : List UInt8), ∀ r ∈ (rallF n k b).1, rightB r = true
  | 0, _, _, r, h => by simp [rallF] at h
  | n + 1, k, b, r, h => by
    unfold rallF at h
    split at h
    · simp at h
    · split at h
      · simp at h
      · split at h
        · simp at h
        · rename_i h1 h2 h3
          rcases List.mem_cons.1 h with rfl | h
          · exact (recRead_ok (by simpa using h3)).1
          · exact rallF_right n _ _ r h
theorem rall_right {k : Nat} {b : List UInt8} {r : Rc} (h : r ∈ (rall k b).1) : rightB r = true := rallF_right _ _ _ r h
/-- Numbers as ints: as they are, or out of bounds. -/
def okW (f : UInt64 → Int) : Prop := ∀ a : UInt64, (a.toNat < 99999 ∧ f a = a.toNat) ∨ (99999 ≤ a.toNat ∧ (f a < 0 ∨ 99999 ≤ f a))
theorem okW_toNat : okW fun a => (a.toNat : Int) := fun a => by
  rcases Nat.lt_or_ge a.toNat 99999 with h | h
  · exact .inl ⟨h, rfl⟩
  · exact .inr ⟨h, .inr (by simp; omega)⟩
theorem okW_wrap : okW fun a => IntKind.i64.wrap (a.toNat : Int) := fun a => by
  have := a.toNat_lt
  unfold IntKind.wrap
  simp [IntKind.bits, IntKind.signed]
  omega
def mn99 (a : UInt64) : Nat := if a.toNat < 99999 then a.toNat else 99999
theorem okW_min : okW fun a => IntKind.i64.wrap ((mn99 a : Nat) : Int) := fun a => by
  have := a.toNat_lt
  unfold mn99 IntKind.wrap
  simp [IntKind.bits, IntKind.signed]
  split <;> omega
def mkR (f : UInt64 → Int) (a0 a1 a2 a3 a4 : UInt64) : Rt := ⟨a0, f a1, f a2, f a3, f a4⟩
def tellR (r : Rt) : Rt × Int := if rtB r then (r, 0) else (rt0, 2)
theorem rtB_bounds {r : Rt} (h : rtB r = true) : (0 ≤ r.lanes ∧ r.lanes < 99999) ∧ (0 ≤ r.pay ∧ r.pay < 99999) ∧ (0 ≤ r.del ∧ r.del < 99999) ∧ (0 ≤ r.seg ∧ r.seg < 99999) := by
  unfold rtB cfgB at h
  simp only [Bool.and_eq_true, decide_eq_true_eq] at h
  omega
theorem tell_same {f g : UInt64 → Int} (hf : okW f) (hg : okW g) (a0 a1 a2 a3 a4 : UInt64) : tellR (mkR f a0 a1 a2 a3 a4) = tellR (mkR g a0 a1 a2 a3 a4) := by
  have key : ∀ {f g : UInt64 → Int}, okW f → okW g → rtB (mkR f a0 a1 a2 a3 a4) = true → mkR f a0 a1 a2 a3 a4 = mkR g a0 a1 a2 a3 a4 := fun {f g} hf hg h => by
    obtain ⟨h1, h2, h3, h4⟩ := rtB_bounds h
    have e : ∀ a, 0 ≤ f a ∧ f a < 99999 → f a = g a := fun a ha => by
      rcases hf a with ⟨k1, k2⟩ | ⟨k1, k2⟩
      · rcases hg a with ⟨j1, j2⟩ | ⟨j1, j2⟩
        · rw [k2, j2]
        · omega
      · omega
    unfold mkR
    rw [e a1 h1, e a2 h2, e a3 h3, e a4 h4]
  unfold tellR
  by_cases h : rtB (mkR f a0 a1 a2 a3 a4) = true
  · rw [← key hf hg h]
  · by_cases h2 : rtB (mkR g a0 a1 a2 a3 a4) = true
    · exact absurd (by rw [← key hg hf h2]; exact h2) h
    · rw [if_neg h, if_neg h2]
theorem rdRec_one {x : Rc} {es : List Nat} (a0 a1 a2 a3 a4 : UInt64) (hk : x.kind = 12) (hn : x.n = [a0, a1, a2, a3, a4]) {f : UInt64 → Int} (hf : okW f) : rdRec ([x], es, 0) = tellR (mkR f a0 a1 a2 a3 a4) := by
  rw [tell_same hf okW_toNat]
  unfold rdRec tellR mkR
  dsimp only
  rw [if_neg (by simp), if_pos hk, hn]
  rfl
theorem rdRec_err {l : List Rc} {es : List Nat} {c : Int} (h : c ≠ 0) : rdRec (l, es, c) = (rt0, c) := by
  unfold rdRec
  rw [if_pos h]
theorem rdRec_len {l : List Rc} {es : List Nat} (h : l.length ≠ 1) : rdRec (l, es, 0) = (rt0, 2) := by
  unfold rdRec
  dsimp only
  rw [if_neg (by simp)]
  match l, h with
  | [], _ => rfl
  | [x], h => exact absurd rfl h
  | x :: y :: t, _ => rfl
theorem rdRec_kind {x : Rc} {es : List Nat} (h : x.kind ≠ 12) : rdRec ([x], es, 0) = (rt0, 2) := by
  unfold rdRec
  dsimp only
  rw [if_neg (by simp), if_neg h]
/-! ### Write -/
theorem doP_opnR (s : PS) (e : Nat) (act : PS → PS) (h : (act (fusS s)).opn.length ≤ s.opn.length + 1) : (doP s e act).2.opn.length ≤ s.opn.length + 1 :=
  doP_ind (P := fun t => t.opn.length ≤ s.opn.length + 1) s e act (Nat.le_succ _) (Nat.le_succ _) h
theorem doP_filR (s : PS) (e : Nat) (act : PS → PS) (h : (act (fusS s)).files.length ≤ s.files.length + 1) : (doP s e act).2.files.length ≤ s.files.length + 1 :=
  doP_ind (P := fun t => t.files.length ≤ s.files.length + 1) s e act (Nat.le_succ _) (Nat.le_succ _) h
theorem setF_le (t : PS) (f : Option Nat) (g : List UInt8 × Nat → List UInt8 × Nat) : (setF t.files f g).length ≤ t.files.length + 1 := by
  unfold setF
  cases f <;> simp
/-- What a step may make of a disk. -/
def Gr (s s' : PS) : Prop := (WF s → WF s') ∧ s'.opn.length ≤ s.opn.length + 1 ∧ s'.files.length ≤ s.files.length + 1
theorem Gr.same (s : PS) : Gr s s := ⟨id, Nat.le_succ _, Nat.le_succ _⟩
theorem gr_cre (s : PS) (n : Nm) : Gr s (creP s n).2 := ⟨fun h => h.cre n, doP_opnR s _ _ (by simp [fusS]), doP_filR s _ _ (by simp [fusS])⟩
theorem gr_app (s : PS) (n : Nm) (b : List UInt8) : Gr s (appP s n b).2 := ⟨fun h => h.app n b, doP_opnR s _ _ (Nat.le_succ _), doP_filR s _ _ (setF_le _ _ _)⟩
theorem gr_syn (s : PS) (n : Nm) : Gr s (synP s n).2 := ⟨fun h => h.syn n, doP_opnR s _ _ (Nat.le_succ _), doP_filR s _ _ (setF_le _ _ _)⟩
theorem gr_ren (s : PS) (n m : Nm) : Gr s (renP s n m).2 := ⟨fun h => h.ren n m, doP_opnR s _ _ (by simp [fusS]), doP_filR s _ _ (by simp [fusS])⟩
theorem gr_del (s : PS) (n : Nm) : Gr s (delP s n).2 := ⟨fun h => h.del n, doP_opnR s _ _ (by simp [fusS]), doP_filR s _ _ (by simp [fusS])⟩
theorem gr_dsy (s : PS) : Gr s (dsyP s).2 := ⟨fun h => h.dsy, doP_opnR s _ _ (by simp [fusS]), doP_filR s _ _ (by simp [fusS])⟩
theorem gr_fus (s : PS) (n : Int) (hn : n ≤ 9223372036854775807) : Gr s (fusP s n) := ⟨fun h => h.fus n hn, Nat.le_succ _, Nat.le_succ _⟩
theorem gr_cra (s : PS) (k : Int) (ts : List Int) : Gr s (crP s k ts) := ⟨fun h => h.cra k ts, by simp [crP], by simp only [crP, crA_len]; omega⟩
theorem gr_delT (n : Nm) (s : PS) : Gr s (delT n s).2 := by
  unfold delT
  split <;> exact gr_del s n
theorem seqP_gr : ∀ (l : List (PS → Nat × PS)), (∀ f ∈ l, ∀ s, Gr s (f s).2) → ∀ s, (WF s → WF (seqP l s).2) ∧ (seqP l s).2.opn.length ≤ s.opn.length + l.length ∧ (seqP l s).2.files.length ≤ s.files.length + l.length
  | [], _, s => ⟨id, Nat.le_refl _, Nat.le_refl _⟩
  | f :: l, h, s => by
    have h1 := h f (by simp) s
    have h2 := seqP_gr l (fun g hg => h g (by simp [hg])) (f s).2
    unfold seqP
    split
    · refine ⟨fun k => h2.1 (h1.1 k), ?_, ?_⟩
      · have := h2.2.1; have := h1.2.1; simp only [List.length_cons]; omega
      · have := h2.2.2; have := h1.2.2; simp only [List.length_cons]; omega
    · refine ⟨h1.1, ?_, ?_⟩
      · have := h1.2.1; simp only [List.length_cons]; omega
      · have := h1.2.2; simp only [List.length_cons]; omega
theorem wr_gr (s : PS) (r : Rt) : (WF s → WF (wrP s r).2) ∧ (wrP s r).2.opn.length ≤ s.opn.length + 6 ∧ (wrP s r).2.files.length ≤ s.files.length + 6 := by
  unfold wrP
  split
  · refine seqP_gr (wrOps (rtBytes r)) (fun f hf => ?_) s
    simp only [wrOps, List.mem_cons, List.not_mem_nil, or_false] at hf
    rcases hf with rfl | rfl | rfl | rfl | rfl | rfl
    · exact gr_delT nFresh
    · exact fun s => gr_cre s _
    · exact fun s => gr_app s _ _
    · exact fun s => gr_syn s _
    · exact fun s => gr_ren s _ _
    · exact gr_dsy
  · exact ⟨id, Nat.le_add_right _ 6, Nat.le_add_right _ 6⟩
/-- The document's way: what is there is deleted ahead. -/
def wrT (b : List UInt8) : List (PS → Nat × PS) := [fun s => creP s nFresh, fun s => appP s nFresh b, fun s => synP s nFresh, fun s => renP s nFresh nRoot, dsyP]
def wrR (s : PS) (r : Rt) : Nat × PS := if rtB r then (if look s.dir nFresh = none then seqP (wrT (rtBytes r)) s else seqP ((fun s => delP s nFresh) :: wrT (rtBytes r)) s) else (1, s)
theorem seqP_stop {f : PS → Nat × PS} {l : List (PS → Nat × PS)} {s : PS} (h : (f s).1 ≠ 0) : seqP (f :: l) s = f s := by
  unfold seqP
  rw [if_neg h]
theorem seqP_go {f : PS → Nat × PS} {l : List (PS → Nat × PS)} {s : PS} (h : (f s).1 = 0) : seqP (f :: l) s = seqP l (f s).2 := by
  conv => lhs; unfold seqP
  rw [if_pos h]
theorem wr_same (s : PS) (r : Rt) : wrR s r = wrP s r := by
  unfold wrR wrP
  split
  · by_cases hl : look s.dir nFresh = none
    · rw [if_pos hl]
      by_cases hd : s.down = true
      · have e1 : delT nFresh s = (7, s) := by
          unfold delT delP
          rw [doP_down hd]; rfl
        have e2 : creP s nFresh = (7, s) := doP_down hd _ _
        show seqP (wrT _) s = seqP (wrOps _) s
        have h1 : seqP (wrT (rtBytes r)) s = (7, s) := (seqP_stop (f := fun s => creP s nFresh) (by show (creP s nFresh).1 ≠ 0; rw [e2]; exact (by decide : (7 : Nat) ≠ 0))).trans e2
        have h2 : seqP (wrOps (rtBytes r)) s = (7, s) := (seqP_stop (f := delT nFresh) (by rw [e1]; exact (by decide : (7 : Nat) ≠ 0))).trans e1
        rw [h1, h2]
      · have e1 : delT nFresh s = (0, s) := by
          have hm : delP s nFresh = (5, s) := by
            unfold delP doP missP
            rw [if_neg hd, if_pos hl, if_pos (by decide)]
          unfold delT
          rw [hm]; rfl
        show seqP (wrT _) s = seqP (wrOps _) s
        rw [show wrOps (rtBytes r) = delT nFresh :: wrT (rtBytes r) from rfl]
        rw [seqP_go (f := delT nFresh) (by rw [e1]), e1]
    · rw [if_neg hl]
      have e1 : delT nFresh s = delP s nFresh := by
        unfold delT
        rw [if_neg]
        intro h5
        have hm : missP s nFresh = 0 := by unfold missP; rw [if_neg hl]
        unfold delP doP at h5
        rw [hm] at h5
        simp only [ne_eq, not_true_eq_false, if_false] at h5
        split at h5
        · simp at h5
        · split at h5 <;> simp at h5
      rw [show wrOps (rtBytes r) = delT nFresh :: wrT (rtBytes r) from rfl]
      by_cases h0 : (delP s nFresh).1 = 0
      · rw [seqP_go (f := fun s => delP s nFresh) h0, seqP_go (f := delT nFresh) (by rw [e1]; exact h0), e1]
      · rw [seqP_stop (f := fun s => delP s nFresh) h0, seqP_stop (f := delT nFresh) (by rw [e1]; exact h0), e1]
  · rfl
end Go.Proofs.YtijpokajhjhllaaGreatDoor

set_option linter.unusedSimpArgs false
set_option linter.unusedVariables false
set_option maxRecDepth 100000
namespace Go.Proofs.YtijpokajhjhllaaGreatDoor
open Go Go.RowKit Go.Tum Go.Tum.Crc

set_option maxHeartbeats 2000000 in
theorem rcfg_any (l p d : Int) (w : World) : Calls Tryz.prog 72 #[cfV l p d] w fun e w' => e = .returned (.bool (cfgB l p d)) ∧ Ext w w' := by
  have hb := heap_alloc_new w (.cells #[.int .i64 l, .int .i64 p, .int .i64 d] 40 (0, 0))
  have hx := hid (Ext.alloc w (.cells #[.int .i64 l, .int .i64 p, .int .i64 d] 40 (0, 0)))
  obtain ⟨R, hR⟩ : ∃ R, cfgB l p d = R := ⟨_, rfl⟩
  have HR := hid hR
  rw [hR]
  unfold cfgB at hR
  obtain ⟨b1, h1⟩ : ∃ b, decide (1 ≤ l) = b := ⟨_, rfl⟩
  obtain ⟨b2, h2⟩ : ∃ b, decide (l ≤ 8) = b := ⟨_, rfl⟩
  obtain ⟨b3, h3⟩ : ∃ b, decide (0 ≤ p) = b := ⟨_, rfl⟩
  obtain ⟨b4, h4⟩ : ∃ b, decide (p ≤ 64) = b := ⟨_, rfl⟩
  obtain ⟨b5, h5⟩ : ∃ b, decide (1 ≤ d) = b := ⟨_, rfl⟩
  obtain ⟨b6, h6⟩ : ∃ b, decide (d ≤ 20) = b := ⟨_, rfl⟩
  rw [h1, h2, h3, h4, h5, h6] at hR
  subst hR
  clear HR
  cases b1
  case false =>
    go_enter Tryz.func72, Tryz.ntmps72
    go_wp2
    go_ret
    exact ⟨by simp, hx.out⟩
  cases b2
  case false =>
    go_enter Tryz.func72, Tryz.ntmps72
    go_wp2
    go_ret
    exact ⟨by simp, hx.out⟩
  cases b3
  case false =>
    go_enter Tryz.func72, Tryz.ntmps72
    go_wp2
    go_ret
    exact ⟨by simp, hx.out⟩
  cases b4
  case false =>
    go_enter Tryz.func72, Tryz.ntmps72
    go_wp2
    go_ret
    exact ⟨by simp, hx.out⟩
  cases b5
  case false =>
    go_enter Tryz.func72, Tryz.ntmps72
    go_wp2
    go_ret
    exact ⟨by simp, hx.out⟩
  cases b6
  case false =>
    go_enter Tryz.func72, Tryz.ntmps72
    go_wp2
    go_ret
    exact ⟨by simp, hx.out⟩
  go_enter Tryz.func72, Tryz.ntmps72
  go_wp2
  go_ret
  exact ⟨by simp, hx.out⟩
set_option maxHeartbeats 2000000 in
theorem rrt_any (r : Rt) (w : World) : Calls Tryz.prog 26 #[rtV r] w fun e w' => e = .returned (.bool (rtB r)) ∧ Ext w w' := by
  obtain ⟨gen, l, p, d, s⟩ := r
  have hb := hid (heap_alloc_new w (.cells #[uv gen, .int .i64 l, .int .i64 p, .int .i64 d, .int .i64 s] 42 (0, 0)))
  have HX := hid (Ext.alloc w (.cells #[uv gen, .int .i64 l, .int .i64 p, .int .i64 d, .int .i64 s] 42 (0, 0)))
  obtain ⟨R, hR⟩ : ∃ R, rtB ⟨gen, l, p, d, s⟩ = R := ⟨_, rfl⟩
  rw [hR]
  unfold rtB at hR
  dsimp only at hR
  obtain ⟨b1, h1⟩ : ∃ b, decide (1 ≤ gen.toNat) = b := ⟨_, rfl⟩
  obtain ⟨b2, h2⟩ : ∃ b, decide (gen.toNat < 10000000000) = b := ⟨_, rfl⟩
  obtain ⟨b3, h3⟩ : ∃ b, cfgB l p d = b := ⟨_, rfl⟩
  obtain ⟨b4, h4⟩ : ∃ b, decide (64 ≤ s) = b := ⟨_, rfl⟩
  obtain ⟨b5, h5⟩ : ∃ b, decide (s ≤ 65536) = b := ⟨_, rfl⟩
  rw [h1, h2, h3, h4, h5] at hR
  subst hR
  have h1' : decide ((1 : Int) ≤ (gen.toNat : Int)) = b1 := by rw [← h1]; simp only [decide_eq_decide]; omega
  have h2' : decide ((gen.toNat : Int) ≤ 9999999999) = b2 := by rw [← h2]; simp only [decide_eq_decide]; omega
  have HC := hid (fun w' => rcfg_any l p d w')
  have H3 := hid h3
  clear h1 h2 h3
  cases b3
  case false =>
    go_enter Tryz.func26, Tryz.ntmps26
    go_wp2_with fail
    have hc := HC.out (w.alloc (.cells #[uv gen, .int .i64 l, .int .i64 p, .int .i64 d, .int .i64 s] 42 (0, 0)))
    rw [H3.out] at hc
    refine hc.mono ?_
    clear hc
    rintro e w2 ⟨rfl, hx⟩
    have HE2 := hid (HX.out.trans hx)
    have c0 : w2.cell? ⟨w.heap.size, 0, none⟩ = some (uv gen) := by rw [cell_of_row _ _ _ _ _ _ (hx.obj hb.out)]; rfl
    have c4 : w2.cell? ⟨w.heap.size, 4, none⟩ = some (.int .i64 s) := by rw [cell_of_row _ _ _ _ _ _ (hx.obj hb.out)]; rfl
    clear hx
    go_wp2
    go_ret
    exact ⟨by simp, HE2.out⟩
  cases b1
  case false =>
    go_enter Tryz.func26, Tryz.ntmps26
    go_wp2_with fail
    have hc := HC.out (w.alloc (.cells #[uv gen, .int .i64 l, .int .i64 p, .int .i64 d, .int .i64 s] 42 (0, 0)))
    rw [H3.out] at hc
    refine hc.mono ?_
    clear hc
    rintro e w2 ⟨rfl, hx⟩
    have HE2 := hid (HX.out.trans hx)
    have c0 : w2.cell? ⟨w.heap.size, 0, none⟩ = some (uv gen) := by rw [cell_of_row _ _ _ _ _ _ (hx.obj hb.out)]; rfl
    have c4 : w2.cell? ⟨w.heap.size, 4, none⟩ = some (.int .i64 s) := by rw [cell_of_row _ _ _ _ _ _ (hx.obj hb.out)]; rfl
    clear hx
    go_wp2
    go_ret
    exact ⟨by simp, HE2.out⟩
  cases b2
  case false =>
    go_enter Tryz.func26, Tryz.ntmps26
    go_wp2_with fail
    have hc := HC.out (w.alloc (.cells #[uv gen, .int .i64 l, .int .i64 p, .int .i64 d, .int .i64 s] 42 (0, 0)))
    rw [H3.out] at hc
    refine hc.mono ?_
    clear hc
    rintro e w2 ⟨rfl, hx⟩
    have HE2 := hid (HX.out.trans hx)
    have c0 : w2.cell? ⟨w.heap.size, 0, none⟩ = some (uv gen) := by rw [cell_of_row _ _ _ _ _ _ (hx.obj hb.out)]; rfl
    have c4 : w2.cell? ⟨w.heap.size, 4, none⟩ = some (.int .i64 s) := by rw [cell_of_row _ _ _ _ _ _ (hx.obj hb.out)]; rfl
    clear hx
    go_wp2
    go_ret
    exact ⟨by simp, HE2.out⟩
  cases b4
  case false =>
    go_enter Tryz.func26, Tryz.ntmps26
    go_wp2_with fail
    have hc := HC.out (w.alloc (.cells #[uv gen, .int .i64 l, .int .i64 p, .int .i64 d, .int .i64 s] 42 (0, 0)))
    rw [H3.out] at hc
    refine hc.mono ?_
    clear hc
    rintro e w2 ⟨rfl, hx⟩
    have HE2 := hid (HX.out.trans hx)
    have c0 : w2.cell? ⟨w.heap.size, 0, none⟩ = some (uv gen) := by rw [cell_of_row _ _ _ _ _ _ (hx.obj hb.out)]; rfl
    have c4 : w2.cell? ⟨w.heap.size, 4, none⟩ = some (.int .i64 s) := by rw [cell_of_row _ _ _ _ _ _ (hx.obj hb.out)]; rfl
    clear hx
    go_wp2
    go_ret
    exact ⟨by simp, HE2.out⟩
  cases b5
  case false =>
    go_enter Tryz.func26, Tryz.ntmps26
    go_wp2_with fail
    have hc := HC.out (w.alloc (.cells #[uv gen, .int .i64 l, .int .i64 p, .int .i64 d, .int .i64 s] 42 (0, 0)))
    rw [H3.out] at hc
    refine hc.mono ?_
    clear hc
    rintro e w2 ⟨rfl, hx⟩
    have HE2 := hid (HX.out.trans hx)
    have c0 : w2.cell? ⟨w.heap.size, 0, none⟩ = some (uv gen) := by rw [cell_of_row _ _ _ _ _ _ (hx.obj hb.out)]; rfl
    have c4 : w2.cell? ⟨w.heap.size, 4, none⟩ = some (.int .i64 s) := by rw [cell_of_row _ _ _ _ _ _ (hx.obj hb.out)]; rfl
    clear hx
    go_wp2
    go_ret
    exact ⟨by simp, HE2.out⟩
  go_enter Tryz.func26, Tryz.ntmps26
  go_wp2_with fail
  have hc := HC.out (w.alloc (.cells #[uv gen, .int .i64 l, .int .i64 p, .int .i64 d, .int .i64 s] 42 (0, 0)))
  rw [H3.out] at hc
  refine hc.mono ?_
  clear hc
  rintro e w2 ⟨rfl, hx⟩
  have HE2 := hid (HX.out.trans hx)
  have c0 : w2.cell? ⟨w.heap.size, 0, none⟩ = some (uv gen) := by rw [cell_of_row _ _ _ _ _ _ (hx.obj hb.out)]; rfl
  have c4 : w2.cell? ⟨w.heap.size, 4, none⟩ = some (.int .i64 s) := by rw [cell_of_row _ _ _ _ _ _ (hx.obj hb.out)]; rfl
  clear hx
  go_wp2
  go_ret
  exact ⟨by simp, HE2.out⟩
end Go.Proofs.YtijpokajhjhllaaGreatDoor

set_option linter.unusedSimpArgs false
set_option linter.unusedVariables false
set_option maxRecDepth 100000
namespace Go.Proofs.YtijpokajhjhllaaGreatDoor
open Go Go.RowKit Go.Tum Go.ChangeMaps Go.Tum.Crc Go.Tum.Vint

theorem i64r {x : Int} (y : Nat) (h : x = (y : Int)) (hy : y < 9223372036854775808) : IntKind.i64.wrap x = (y : Int) := by rw [h]; exact IntWalk.i64_in _ (by omega)
theorem WF.few {s : PS} (h : WF s) : s.dir.length ≤ 60 := by
  have := (h.px s.opn.length).le
  rwa [List.take_length] at this
theorem look_isSome : ∀ (d : Dir) (n : Nm), (look d n).isSome = (d.map Prod.fst).any (· == n)
  | [], n => rfl
  | (a, b) :: r, n => by
    have ih := look_isSome r n
    unfold look at ih ⊢
    rw [List.lookup_cons, List.map_cons, List.any_cons]
    by_cases h : a = n
    · subst h; simp
    · have h1 : (n == a) = false := by simpa using fun e => h e.symm
      have h2 : (a == n) = false := by simpa using h
      rw [h1, h2, ← ih]; rfl
set_option maxHeartbeats 2000000 in
theorem rthere_any {B : Nat} {w : World} {r : Nat} {y : RX} {t : PS} (h : RD B w r y t) (hl : t.dir.length ≤ 60) :
    Calls Tryz.prog 43 #[pv r, vN nFresh] w fun e w' => e = .returned (.bool (look t.dir nFresh).isSome) ∧ Ext w w' := by
  have HC := hid (rnames_any h hl)
  have HLK := hid (look_isSome t.dir nFresh)
  obtain ⟨L, hL⟩ : ∃ L, t.dir.map Prod.fst = L := ⟨_, rfl⟩
  have HLL : Hid (L.length ≤ 60) := hid (by rw [← hL, List.length_map]; exact hl)
  rw [hL] at HC HLK
  rw [HLK.out]
  clear h hl hL HLK
  go_enter Tryz.func43, Tryz.ntmps43
  go_wp2_with fail
  refine HC.out.mono ?_
  rintro e w1 ⟨⟨u, rfl, hu⟩, hx⟩
  obtain ⟨ao, cap, rfl, hle, hm, hnn, hcell⟩ := hu.vec.open
  have HCC := hid hcell
  have HX := hid hx
  obtain ⟨n, hn⟩ : ∃ n, L.length = n := ⟨_, rfl⟩
  have HN := hid hn
  rw [hn] at hle ⊢
  clear hu hcell hx HC hn
  go_wp2
  go_loopw [6] (fun i wr => ∃ k : Nat, k ≤ n ∧ i = .int .i64 (k : Int) ∧ Hid (∀ j (h : j < L.length), j < k → L[j] ≠ nFresh) ∧ wr = w1) (fun i _ => n - (intOf i).toNat)
  case atStart => exact ⟨0, Nat.zero_le _, rfl, hid (fun j h h2 => absurd h2 (by omega)), by first | rfl | trivial⟩
  case round =>
    obtain ⟨k, hk, rfl, HA, rfl⟩ := hrel
    by_cases hlt : k < n
    · have hkj : decide ((k : Int) < (n : Int)) = true := by simp; omega
      have hkj2 : (k : Int) < (n : Int) := by omega
      obtain ⟨g, rfl⟩ := hnn (by omega)
      have hlL : k < L.length := by rw [HN.out]; exact hlt
      have c0 := HCC.out g rfl k hlL
      obtain ⟨nm, hnm⟩ : ∃ x, L[k] = x := ⟨_, rfl⟩
      rw [hnm] at c0
      have HNM := hid hnm
      have HLT := hid hlt
      have hwk : IntKind.i64.wrap ((k : Int) + 1) = ((k + 1 : Nat) : Int) := i64r _ (by omega) (by have := HLL.out; have := HN.out; omega)
      by_cases he : nm = nFresh
      · have HR : Hid (L.any (· == nFresh) = true) := hid (List.any_eq_true.2 ⟨_, List.getElem_mem hlL, by rw [HNM.out, he]; simp⟩)
        have he2 : (nm == nFresh) = true := by simpa using he
        clear hnm he
        go_wp2
        go_returns
        exact ⟨by rw [HR.out]; rfl, HX.out⟩
      · have he2 : (nm == nFresh) = false := by simpa using he
        have HE := hid he
        clear hnm he
        go_wp2
        go_roundw
        case rel => exact ⟨k + 1, HLT.out, by first | rfl | go_num, hid (fun j h h2 => by
          rcases Nat.lt_or_eq_of_le (Nat.le_of_lt_succ h2) with h3 | h3
          · exact HA.out j h h3
          · subst h3; rw [HNM.out]; exact HE.out), by first | rfl | trivial⟩
        case measure => have := HLT.out; simp [intOf]; omega
    · have hkf : decide ((k : Int) < (n : Int)) = false := by simp; omega
      have hkf2 : (k < n) = False := by simp; omega
      have HR : Hid (L.any (· == nFresh) = false) := hid (by
        rw [List.any_eq_false]
        intro x hx
        obtain ⟨j, hj, rfl⟩ := List.mem_iff_getElem.1 hx
        have := HA.out j hj (by have := HN.out; omega)
        simpa using this)
      clear hlt
      go_wp2
      go_returns
      exact ⟨by rw [HR.out]; rfl, HX.out⟩
abbrev rtO16 (r : Rt) : Obj := .cells #[uv r.gen, .int .i64 r.lanes, .int .i64 r.pay, .int .i64 r.del, .int .i64 r.seg] 42 (0, 0)
/-- What is left of Write's calls. -/
def SqP (B : Nat) (w0 : World) (p : Nat) (s : PS) (r : Nat) (K : List (Nat × Obj)) (c : Nat × PS) (e : Ending) (w' : World) : Prop := e = .returned (.int .i64 (c.1 : Nat)) ∧ BDE B w' p s r c.2 K ∧ Below B w0 w'
theorem seqP_one {f : PS → Nat × PS} {s : PS} : seqP [f] s = f s := by
  by_cases h : (f s).1 = 0
  · rw [seqP_go h]
    show (0, (f s).2) = f s
    rw [← h]
  · rw [seqP_stop h]
theorem u64n {n : Int} (h0 : 0 ≤ n) (h1 : n ≤ 1000000) : ∃ u : UInt64, UInt64.ofNat n.toNat = u ∧ IntKind.u64.wrap n = (u.toNat : Int) := by
  refine ⟨_, rfl, ?_⟩
  rw [u64_int h0 h1]
  unfold IntKind.wrap
  simp [IntKind.bits, IntKind.signed]
  omega
set_option maxHeartbeats 4000000 in
theorem rwrite_any {B : Nat} {w : World} {p : Nat} {s : PS} {r : Nat} {t : PS} {K : List (Nat × Obj)} (q : Rt) (h : BDE B w p s r t K) (hw : WF t) (ho : t.opn.length ≤ 90000) (hf : t.files.length ≤ 90000) :
    Calls Tryz.prog 8 #[pv r, rtV q] w fun e w' => SqP B w p s r K (wrP t q) e w' := by
  rw [← wr_same]
  obtain ⟨X, hX⟩ : ∃ X, wrR t q = X := ⟨_, rfl⟩
  rw [hX]
  have HX := hid hX
  have HW := hid hw
  have HO := hid ho
  have HF := hid hf
  have hE0 := Ext.alloc w (rtO16 q)
  have hb0 := heap_alloc_new w (rtO16 q)
  have H0 := hid (h.ext hE0)
  have HE0 : Hid (Below B w (w.alloc (rtO16 q))) := hid (hE0.mono h.base)
  have hc := rrt_any q (w.alloc (rtO16 q))
  obtain ⟨R, hR⟩ : ∃ R, rtB q = R := ⟨_, rfl⟩
  rw [hR] at hc
  have HR := hid hR
  obtain ⟨W0, hW0⟩ : ∃ W, w.alloc (rtO16 q) = W := ⟨_, rfl⟩
  rw [hW0] at H0 HE0 hc hb0
  have HC := hid hc
  have HB0 := hid hb0
  obtain ⟨gen, l, pa, de, sg⟩ := q
  obtain ⟨b0, b1, b2, b3, b4, bf⟩ := blk5 hb0
  dsimp only at b0 b1 b2 b3 b4
  clear h hw ho hf hE0 hb0 hc hR hX
  go_enter Tryz.func8, Tryz.ntmps8
  go_wp2_with (first | rw [hW0] | fail)
  refine HC.out.mono ?_
  rintro e w1 ⟨rfl, hx⟩
  have H1 := hid (H0.out.ext hx)
  have HE1 : Hid (Below B w w1) := hid (Below.trans HE0.out (hx.mono H0.out.base))
  have HB1 := hid (hx.obj HB0.out)
  clear hx HC H0 HE0 HB0 b0 b1 b2 b3 b4 bf hW0
  cases R
  case false =>
    have HXV : Hid (X = (1, t)) := hid (by rw [← HX.out]; unfold wrR; rw [HR.out]; rfl)
    go_wp2
    go_returns
    rw [HXV.out]
    exact ⟨rfl, H1.out, HE1.out⟩
  obtain ⟨⟨l0, l1⟩, ⟨p0, p1⟩, ⟨d0, d1⟩, ⟨s0, s1⟩⟩ := rtB_bounds HR.out
  dsimp only at l0 l1 p0 p1 d0 d1 s0 s1
  obtain ⟨u1, hu1, wu1⟩ := u64n l0 (by omega)
  obtain ⟨u2, hu2, wu2⟩ := u64n p0 (by omega)
  obtain ⟨u3, hu3, wu3⟩ := u64n d0 (by omega)
  obtain ⟨u4, hu4, wu4⟩ := u64n s0 (by omega)
  obtain ⟨b, hb⟩ : ∃ b, rtBytes ⟨gen, l, pa, de, sg⟩ = b := ⟨_, rfl⟩
  have HBL : Hid (b.length ≤ 411) := hid (by rw [← hb]; exact (rt_len _).1)
  have HBM : Hid (11 ≤ b.length) := hid (by rw [← hb]; exact (rt_len _).2)
  have HRB : Hid (recBytes ⟨12, [gen, u1, u2, u3, u4], []⟩ = (b, 0)) := hid (by
    have h1 : (⟨12, [gen, u1, u2, u3, u4], []⟩ : Rc) = rtRec ⟨gen, l, pa, de, sg⟩ := by unfold rtRec; rw [hu1, hu2, hu3, hu4]
    rw [h1, ← hb]
    unfold recBytes
    rw [if_pos (rt_rec _)]
    rfl)
  have HXV : Hid (X = if look t.dir nFresh = none then seqP (wrT b) t else seqP ((fun s => delP s nFresh) :: wrT b) t) := hid (by rw [← HX.out]; unfold wrR; rw [if_pos HR.out, hb])
  clear HX HR l0 l1 p0 p1 d0 d1 s0 s1 hu1 hu2 hu3 hu4 hb
  obtain ⟨b0, b1, b2, b3, b4, bf⟩ := blk5 HB1.out
  dsimp only at b0 b1 b2 b3 b4
  obtain ⟨W2, hW2⟩ : ∃ W, w1.alloc (.cells #[uv gen, uv u1, uv u2, uv u3, uv u4] 31) = W := ⟨_, rfl⟩
  have hE2 := Ext.alloc w1 (.cells #[uv gen, uv u1, uv u2, uv u3, uv u4] 31)
  have hv2 := (owv_lit w1 0 31 [gen, u1, u2, u3, u4] #[uv gen, uv u1, uv u2, uv u3, uv u4] rfl 5 rfl (Nat.zero_le _) (by simp [maxLen])).vec
  rw [hW2] at hE2 hv2
  have H2 := hid (H1.out.ext hE2)
  have HE2 : Hid (Below B w W2) := hid (Below.trans HE1.out (hE2.mono H1.out.base))
  have hc := rbytes5_any ⟨12, [gen, u1, u2, u3, u4], []⟩ _ W2 hv2
  rw [HRB.out] at hc
  have HC := hid hc
  clear hE2 hv2 hc HB1 H1 HE1
  go_wp2_with (first | rw [hW2] | fail)
  refine HC.out.mono ?_
  rintro e w3 ⟨bv3, rfl, hown, hx⟩
  have H3 := hid (H2.out.ext hx)
  have HE3 : Hid (Below B w w3) := hid (Below.trans HE2.out (hx.mono H2.out.base))
  obtain ⟨bo, bc, rfl⟩ := hown.owv.shape
  have HV3 := hid hown
  have hx23 := hx
  have H2X := hid H2.out
  obtain ⟨y3, hy3⟩ := H3.out.rd
  have HC := hid (rthere_any hy3 HW.out.few)
  clear hown hx hW2 wu1 wu2 wu3 wu4 b0 b1 b2 b3 b4 bf hy3 H2 HE2
  go_wp2_with fail
  refine HC.out.mono ?_
  rintro e w4 ⟨rfl, hx⟩
  have hb11 : 0 < b.length := by have := HBM.out; omega
  obtain ⟨gb, rfl⟩ := HV3.out.addr hb11
  obtain ⟨cur, hcur, hmk⟩ : ∃ cur, w3.heap[gb]? = some (.cells cur 5 (0, 0)) ∧ ∀ w', w'.heap[gb]? = some (.cells cur 5 (0, 0)) → Byt w' (.slice (some ⟨gb, 0, none⟩) b.length bc) b := by
    rcases HV3.out.2 with ⟨hv, h0⟩ | ⟨g9, cap, cur, hv, hb9, hgg, h1, h2⟩
    · cases hv
    · cases hv
      exact ⟨cur, hgg, fun w' hw' => Own.byt (b := W2.heap.size) (e := 5) ⟨HV3.out.1, .inr ⟨gb, bc, cur, rfl, hb9, hw', h1, h2⟩⟩⟩
  have hge : W2.heap.size ≤ gb := HV3.out.block
  have H4 := hid (H2X.out.add hx23 hcur hge (fun cs e he hc => by
    simp only [Obj.cells.injEq] at hc
    rcases he with rfl | rfl <;> exact absurd hc.2.1 (by decide)))
  have HMK := hid hmk
  have H5 := hid (H4.out.ext hx)
  have HE5 : Hid (Below B w w4) := hid (Below.trans HE3.out (hx.mono H3.out.base))
  clear hx hx23 hcur hmk hge hb11 H4 H3 HE3 HC H2X HV3 HBM
  cases hq : look t.dir nFresh with
  | none =>
    have HXT : Hid (X = seqP (wrT b) t) := hid (by rw [HXV.out, if_pos hq])
    have HG : Hid (WF t ∧ t.opn.length ≤ 90001 ∧ t.files.length ≤ 90001) := hid ⟨HW.out, by have := HO.out; omega, by have := HF.out; omega⟩
    clear HXV hq
    have hc := H5.out.doc (c := creP t nFresh) (fun y hy => rcreate_any nFresh nl.1 hy H5.out.base HG.out.1 (by have := HG.out.2.1; omega) (by have := HG.out.2.2; omega))
    obtain ⟨⟨c1, t1⟩, hcc⟩ : ∃ c, creP t nFresh = c := ⟨_, rfl⟩
    rw [hcc] at hc
    have HCC := hid hcc
    have HC := hid hc
    clear hc hcc
    go_wp2_with fail
    refine HC.out.mono ?_
    rintro e v1 ⟨rfl, hbd, hx⟩
    have G1 := hid hbd
    have E1 : Hid (Below B w v1) := hid (Below.trans HE5.out hx)
    clear hbd hx HC
    dsimp only
    by_cases h0 : c1 = 0
    case neg =>
      have HXV : Hid (X = (c1, t1)) := hid (by rw [HXT.out]; unfold wrT; rw [seqP_stop (by rw [HCC.out]; exact h0)]; exact HCC.out)
      have hne : ((c1 : Int) != 0) = true := by simpa using h0
      clear h0
      go_wp2
      go_returns
      rw [HXV.out]
      exact ⟨rfl, G1.out.less (fun z hz => List.mem_cons_of_mem _ hz), E1.out⟩
    have hne : ((c1 : Int) != 0) = false := by simpa using h0
    have X1 : Hid (X = seqP ([fun s => appP s nFresh b, fun s => synP s nFresh, fun s => renP s nFresh nRoot, dsyP]) t1) := hid (by rw [HXT.out]; unfold wrT; rw [seqP_go (by rw [HCC.out]; exact h0)]; show seqP _ (creP t nFresh).2 = _; rw [HCC.out])
    have hgr := gr_cre t nFresh
    rw [HCC.out] at hgr
    have Q1 : Hid (WF t1 ∧ t1.opn.length ≤ 90002 ∧ t1.files.length ≤ 90002) := hid ⟨hgr.1 HG.out.1, by have := hgr.2.1; have := HG.out.2.1; dsimp only at *; omega, by have := hgr.2.2; have := HG.out.2.2; dsimp only at *; omega⟩
    clear h0 hgr HCC
    have hc := G1.out.doc (c := appP t1 nFresh b) (fun y hy => rappend_any nFresh b _ hy (HMK.out _ (G1.out.box List.mem_cons_self)) (by have := HBL.out; omega) G1.out.base Q1.out.1 (by have := Q1.out.2.2; omega) (by have := Q1.out.2.1; omega))
    obtain ⟨⟨c2, t2⟩, hcc⟩ : ∃ c, appP t1 nFresh b = c := ⟨_, rfl⟩
    rw [hcc] at hc
    have HCC := hid hcc
    have HC := hid hc
    clear hc hcc
    go_wp2_with fail
    refine HC.out.mono ?_
    rintro e v2 ⟨rfl, hbd, hx⟩
    have G2 := hid hbd
    have E2 : Hid (Below B w v2) := hid (Below.trans E1.out hx)
    clear hbd hx HC
    dsimp only
    by_cases h0 : c2 = 0
    case neg =>
      have HXV : Hid (X = (c2, t2)) := hid (by rw [X1.out]; rw [seqP_stop (by rw [HCC.out]; exact h0)]; exact HCC.out)
      have hne : ((c2 : Int) != 0) = true := by simpa using h0
      clear h0
      go_wp2
      go_returns
      rw [HXV.out]
      exact ⟨rfl, G2.out.less (fun z hz => List.mem_cons_of_mem _ hz), E2.out⟩
    have hne : ((c2 : Int) != 0) = false := by simpa using h0
    have X2 : Hid (X = seqP ([fun s => synP s nFresh, fun s => renP s nFresh nRoot, dsyP]) t2) := hid (by rw [X1.out]; rw [seqP_go (by rw [HCC.out]; exact h0)]; show seqP _ (appP t1 nFresh b).2 = _; rw [HCC.out])
    have hgr := gr_app t1 nFresh b
    rw [HCC.out] at hgr
    have Q2 : Hid (WF t2 ∧ t2.opn.length ≤ 90003 ∧ t2.files.length ≤ 90003) := hid ⟨hgr.1 Q1.out.1, by have := hgr.2.1; have := Q1.out.2.1; dsimp only at *; omega, by have := hgr.2.2; have := Q1.out.2.2; dsimp only at *; omega⟩
    clear h0 hgr HCC
    have hc := G2.out.doc (c := synP t2 nFresh) (fun y hy => rsync_any nFresh hy G2.out.base Q2.out.1)
    obtain ⟨⟨c3, t3⟩, hcc⟩ : ∃ c, synP t2 nFresh = c := ⟨_, rfl⟩
    rw [hcc] at hc
    have HCC := hid hcc
    have HC := hid hc
    clear hc hcc
    go_wp2_with fail
    refine HC.out.mono ?_
    rintro e v3 ⟨rfl, hbd, hx⟩
    have G3 := hid hbd
    have E3 : Hid (Below B w v3) := hid (Below.trans E2.out hx)
    clear hbd hx HC
    dsimp only
    by_cases h0 : c3 = 0
    case neg =>
      have HXV : Hid (X = (c3, t3)) := hid (by rw [X2.out]; rw [seqP_stop (by rw [HCC.out]; exact h0)]; exact HCC.out)
      have hne : ((c3 : Int) != 0) = true := by simpa using h0
      clear h0
      go_wp2
      go_returns
      rw [HXV.out]
      exact ⟨rfl, G3.out.less (fun z hz => List.mem_cons_of_mem _ hz), E3.out⟩
    have hne : ((c3 : Int) != 0) = false := by simpa using h0
    have X3 : Hid (X = seqP ([fun s => renP s nFresh nRoot, dsyP]) t3) := hid (by rw [X2.out]; rw [seqP_go (by rw [HCC.out]; exact h0)]; show seqP _ (synP t2 nFresh).2 = _; rw [HCC.out])
    have hgr := gr_syn t2 nFresh
    rw [HCC.out] at hgr
    have Q3 : Hid (WF t3 ∧ t3.opn.length ≤ 90004 ∧ t3.files.length ≤ 90004) := hid ⟨hgr.1 Q2.out.1, by have := hgr.2.1; have := Q2.out.2.1; dsimp only at *; omega, by have := hgr.2.2; have := Q2.out.2.2; dsimp only at *; omega⟩
    clear h0 hgr HCC
    have hc := G3.out.doc (c := renP t3 nFresh nRoot) (fun y hy => rrename_any nFresh nRoot nl.2 hy G3.out.base Q3.out.1 (by have := Q3.out.2.1; omega))
    obtain ⟨⟨c4, t4⟩, hcc⟩ : ∃ c, renP t3 nFresh nRoot = c := ⟨_, rfl⟩
    rw [hcc] at hc
    have HCC := hid hcc
    have HC := hid hc
    clear hc hcc
    go_wp2_with fail
    refine HC.out.mono ?_
    rintro e v4 ⟨rfl, hbd, hx⟩
    have G4 := hid hbd
    have E4 : Hid (Below B w v4) := hid (Below.trans E3.out hx)
    clear hbd hx HC
    dsimp only
    by_cases h0 : c4 = 0
    case neg =>
      have HXV : Hid (X = (c4, t4)) := hid (by rw [X3.out]; rw [seqP_stop (by rw [HCC.out]; exact h0)]; exact HCC.out)
      have hne : ((c4 : Int) != 0) = true := by simpa using h0
      clear h0
      go_wp2
      go_returns
      rw [HXV.out]
      exact ⟨rfl, G4.out.less (fun z hz => List.mem_cons_of_mem _ hz), E4.out⟩
    have hne : ((c4 : Int) != 0) = false := by simpa using h0
    have X4 : Hid (X = seqP ([dsyP]) t4) := hid (by rw [X3.out]; rw [seqP_go (by rw [HCC.out]; exact h0)]; show seqP _ (renP t3 nFresh nRoot).2 = _; rw [HCC.out])
    have hgr := gr_ren t3 nFresh nRoot
    rw [HCC.out] at hgr
    have Q4 : Hid (WF t4 ∧ t4.opn.length ≤ 90005 ∧ t4.files.length ≤ 90005) := hid ⟨hgr.1 Q3.out.1, by have := hgr.2.1; have := Q3.out.2.1; dsimp only at *; omega, by have := hgr.2.2; have := Q3.out.2.2; dsimp only at *; omega⟩
    clear h0 hgr HCC
    have hc := G4.out.doc (c := dsyP t4) (fun y hy => rdsync_any hy G4.out.base Q4.out.1)
    obtain ⟨⟨c5, t5⟩, hcc⟩ : ∃ c, dsyP t4 = c := ⟨_, rfl⟩
    rw [hcc] at hc
    have HCC := hid hcc
    have HC := hid hc
    clear hc hcc
    go_wp2_with fail
    refine HC.out.mono ?_
    rintro e v5 ⟨rfl, hbd, hx⟩
    have G5 := hid hbd
    have E5 : Hid (Below B w v5) := hid (Below.trans E4.out hx)
    clear hbd hx HC
    dsimp only
    have HXV : Hid (X = (c5, t5)) := hid (by rw [X4.out, seqP_one (f := dsyP), HCC.out])
    go_wp2
    go_returns
    rw [HXV.out]
    exact ⟨rfl, G5.out.less (fun z hz => List.mem_cons_of_mem _ hz), E5.out⟩
  | some f0 =>
    have hc := H5.out.doc (c := delP t nFresh) (fun y hy => rdelete_any nFresh hy H5.out.base HW.out (by have := HO.out; omega))
    obtain ⟨⟨c0, t0⟩, hcc⟩ : ∃ c, delP t nFresh = c := ⟨_, rfl⟩
    rw [hcc] at hc
    have HCC := hid hcc
    have HC := hid hc
    have HXT : Hid (X = seqP ((fun s => delP s nFresh) :: wrT b) t) := hid (by rw [HXV.out, if_neg (by rw [hq]; exact fun h => by cases h)])
    clear hc hcc hq HXV
    go_wp2_with fail
    refine HC.out.mono ?_
    rintro e v0 ⟨rfl, hbd, hx⟩
    have G0 := hid hbd
    have E0 : Hid (Below B w v0) := hid (Below.trans HE5.out hx)
    clear hbd hx HC
    dsimp only
    by_cases h0 : c0 = 0
    case neg =>
      have HXV : Hid (X = (c0, t0)) := hid (by rw [HXT.out, seqP_stop (f := fun s => delP s nFresh) (by show (delP t nFresh).1 ≠ 0; rw [HCC.out]; exact h0)]; exact HCC.out)
      have hne : ((c0 : Int) != 0) = true := by simpa using h0
      clear h0
      go_wp2
      go_returns
      rw [HXV.out]
      exact ⟨rfl, G0.out.less (fun z hz => List.mem_cons_of_mem _ hz), E0.out⟩
    have hne : ((c0 : Int) != 0) = false := by simpa using h0
    have X0 : Hid (X = seqP (wrT b) t0) := hid (by rw [HXT.out, seqP_go (f := fun s => delP s nFresh) (by show (delP t nFresh).1 = 0; rw [HCC.out]; exact h0)]; show seqP _ (delP t nFresh).2 = _; rw [HCC.out])
    have hgr := gr_del t nFresh
    rw [HCC.out] at hgr
    have Q0 : Hid (WF t0 ∧ t0.opn.length ≤ 90001 ∧ t0.files.length ≤ 90001) := hid ⟨hgr.1 HW.out, by have := hgr.2.1; have := HO.out; dsimp only at *; omega, by have := hgr.2.2; have := HF.out; dsimp only at *; omega⟩
    clear h0 hgr HCC
    have hc := G0.out.doc (c := creP t0 nFresh) (fun y hy => rcreate_any nFresh nl.1 hy G0.out.base Q0.out.1 (by have := Q0.out.2.1; omega) (by have := Q0.out.2.2; omega))
    obtain ⟨⟨c1, t1⟩, hcc⟩ : ∃ c, creP t0 nFresh = c := ⟨_, rfl⟩
    rw [hcc] at hc
    have HCC := hid hcc
    have HC := hid hc
    clear hc hcc
    go_wp2_with fail
    refine HC.out.mono ?_
    rintro e v1 ⟨rfl, hbd, hx⟩
    have G1 := hid hbd
    have E1 : Hid (Below B w v1) := hid (Below.trans E0.out hx)
    clear hbd hx HC
    dsimp only
    by_cases h0 : c1 = 0
    case neg =>
      have HXV : Hid (X = (c1, t1)) := hid (by rw [X0.out]; unfold wrT; rw [seqP_stop (by rw [HCC.out]; exact h0)]; exact HCC.out)
      have hne : ((c1 : Int) != 0) = true := by simpa using h0
      clear h0
      go_wp2
      go_returns
      rw [HXV.out]
      exact ⟨rfl, G1.out.less (fun z hz => List.mem_cons_of_mem _ hz), E1.out⟩
    have hne : ((c1 : Int) != 0) = false := by simpa using h0
    have X1 : Hid (X = seqP ([fun s => appP s nFresh b, fun s => synP s nFresh, fun s => renP s nFresh nRoot, dsyP]) t1) := hid (by rw [X0.out]; unfold wrT; rw [seqP_go (by rw [HCC.out]; exact h0)]; show seqP _ (creP t0 nFresh).2 = _; rw [HCC.out])
    have hgr := gr_cre t0 nFresh
    rw [HCC.out] at hgr
    have Q1 : Hid (WF t1 ∧ t1.opn.length ≤ 90002 ∧ t1.files.length ≤ 90002) := hid ⟨hgr.1 Q0.out.1, by have := hgr.2.1; have := Q0.out.2.1; dsimp only at *; omega, by have := hgr.2.2; have := Q0.out.2.2; dsimp only at *; omega⟩
    clear h0 hgr HCC
    have hc := G1.out.doc (c := appP t1 nFresh b) (fun y hy => rappend_any nFresh b _ hy (HMK.out _ (G1.out.box List.mem_cons_self)) (by have := HBL.out; omega) G1.out.base Q1.out.1 (by have := Q1.out.2.2; omega) (by have := Q1.out.2.1; omega))
    obtain ⟨⟨c2, t2⟩, hcc⟩ : ∃ c, appP t1 nFresh b = c := ⟨_, rfl⟩
    rw [hcc] at hc
    have HCC := hid hcc
    have HC := hid hc
    clear hc hcc
    go_wp2_with fail
    refine HC.out.mono ?_
    rintro e v2 ⟨rfl, hbd, hx⟩
    have G2 := hid hbd
    have E2 : Hid (Below B w v2) := hid (Below.trans E1.out hx)
    clear hbd hx HC
    dsimp only
    by_cases h0 : c2 = 0
    case neg =>
      have HXV : Hid (X = (c2, t2)) := hid (by rw [X1.out]; rw [seqP_stop (by rw [HCC.out]; exact h0)]; exact HCC.out)
      have hne : ((c2 : Int) != 0) = true := by simpa using h0
      clear h0
      go_wp2
      go_returns
      rw [HXV.out]
      exact ⟨rfl, G2.out.less (fun z hz => List.mem_cons_of_mem _ hz), E2.out⟩
    have hne : ((c2 : Int) != 0) = false := by simpa using h0
    have X2 : Hid (X = seqP ([fun s => synP s nFresh, fun s => renP s nFresh nRoot, dsyP]) t2) := hid (by rw [X1.out]; rw [seqP_go (by rw [HCC.out]; exact h0)]; show seqP _ (appP t1 nFresh b).2 = _; rw [HCC.out])
    have hgr := gr_app t1 nFresh b
    rw [HCC.out] at hgr
    have Q2 : Hid (WF t2 ∧ t2.opn.length ≤ 90003 ∧ t2.files.length ≤ 90003) := hid ⟨hgr.1 Q1.out.1, by have := hgr.2.1; have := Q1.out.2.1; dsimp only at *; omega, by have := hgr.2.2; have := Q1.out.2.2; dsimp only at *; omega⟩
    clear h0 hgr HCC
    have hc := G2.out.doc (c := synP t2 nFresh) (fun y hy => rsync_any nFresh hy G2.out.base Q2.out.1)
    obtain ⟨⟨c3, t3⟩, hcc⟩ : ∃ c, synP t2 nFresh = c := ⟨_, rfl⟩
    rw [hcc] at hc
    have HCC := hid hcc
    have HC := hid hc
    clear hc hcc
    go_wp2_with fail
    refine HC.out.mono ?_
    rintro e v3 ⟨rfl, hbd, hx⟩
    have G3 := hid hbd
    have E3 : Hid (Below B w v3) := hid (Below.trans E2.out hx)
    clear hbd hx HC
    dsimp only
    by_cases h0 : c3 = 0
    case neg =>
      have HXV : Hid (X = (c3, t3)) := hid (by rw [X2.out]; rw [seqP_stop (by rw [HCC.out]; exact h0)]; exact HCC.out)
      have hne : ((c3 : Int) != 0) = true := by simpa using h0
      clear h0
      go_wp2
      go_returns
      rw [HXV.out]
      exact ⟨rfl, G3.out.less (fun z hz => List.mem_cons_of_mem _ hz), E3.out⟩
    have hne : ((c3 : Int) != 0) = false := by simpa using h0
    have X3 : Hid (X = seqP ([fun s => renP s nFresh nRoot, dsyP]) t3) := hid (by rw [X2.out]; rw [seqP_go (by rw [HCC.out]; exact h0)]; show seqP _ (synP t2 nFresh).2 = _; rw [HCC.out])
    have hgr := gr_syn t2 nFresh
    rw [HCC.out] at hgr
    have Q3 : Hid (WF t3 ∧ t3.opn.length ≤ 90004 ∧ t3.files.length ≤ 90004) := hid ⟨hgr.1 Q2.out.1, by have := hgr.2.1; have := Q2.out.2.1; dsimp only at *; omega, by have := hgr.2.2; have := Q2.out.2.2; dsimp only at *; omega⟩
    clear h0 hgr HCC
    have hc := G3.out.doc (c := renP t3 nFresh nRoot) (fun y hy => rrename_any nFresh nRoot nl.2 hy G3.out.base Q3.out.1 (by have := Q3.out.2.1; omega))
    obtain ⟨⟨c4, t4⟩, hcc⟩ : ∃ c, renP t3 nFresh nRoot = c := ⟨_, rfl⟩
    rw [hcc] at hc
    have HCC := hid hcc
    have HC := hid hc
    clear hc hcc
    go_wp2_with fail
    refine HC.out.mono ?_
    rintro e v4 ⟨rfl, hbd, hx⟩
    have G4 := hid hbd
    have E4 : Hid (Below B w v4) := hid (Below.trans E3.out hx)
    clear hbd hx HC
    dsimp only
    by_cases h0 : c4 = 0
    case neg =>
      have HXV : Hid (X = (c4, t4)) := hid (by rw [X3.out]; rw [seqP_stop (by rw [HCC.out]; exact h0)]; exact HCC.out)
      have hne : ((c4 : Int) != 0) = true := by simpa using h0
      clear h0
      go_wp2
      go_returns
      rw [HXV.out]
      exact ⟨rfl, G4.out.less (fun z hz => List.mem_cons_of_mem _ hz), E4.out⟩
    have hne : ((c4 : Int) != 0) = false := by simpa using h0
    have X4 : Hid (X = seqP ([dsyP]) t4) := hid (by rw [X3.out]; rw [seqP_go (by rw [HCC.out]; exact h0)]; show seqP _ (renP t3 nFresh nRoot).2 = _; rw [HCC.out])
    have hgr := gr_ren t3 nFresh nRoot
    rw [HCC.out] at hgr
    have Q4 : Hid (WF t4 ∧ t4.opn.length ≤ 90005 ∧ t4.files.length ≤ 90005) := hid ⟨hgr.1 Q3.out.1, by have := hgr.2.1; have := Q3.out.2.1; dsimp only at *; omega, by have := hgr.2.2; have := Q3.out.2.2; dsimp only at *; omega⟩
    clear h0 hgr HCC
    have hc := G4.out.doc (c := dsyP t4) (fun y hy => rdsync_any hy G4.out.base Q4.out.1)
    obtain ⟨⟨c5, t5⟩, hcc⟩ : ∃ c, dsyP t4 = c := ⟨_, rfl⟩
    rw [hcc] at hc
    have HCC := hid hcc
    have HC := hid hc
    clear hc hcc
    go_wp2_with fail
    refine HC.out.mono ?_
    rintro e v5 ⟨rfl, hbd, hx⟩
    have G5 := hid hbd
    have E5 : Hid (Below B w v5) := hid (Below.trans E4.out hx)
    clear hbd hx HC
    dsimp only
    have HXV : Hid (X = (c5, t5)) := hid (by rw [X4.out, seqP_one (f := dsyP), HCC.out])
    go_wp2
    go_returns
    rw [HXV.out]
    exact ⟨rfl, G5.out.less (fun z hz => List.mem_cons_of_mem _ hz), E5.out⟩
end Go.Proofs.YtijpokajhjhllaaGreatDoor

set_option linter.unusedSimpArgs false
set_option linter.unusedVariables false
set_option maxRecDepth 100000
namespace Go.Proofs.YtijpokajhjhllaaGreatDoor
open Go Go.RowKit Go.Tum Go.ChangeMaps Go.Tum.Crc Go.Tum.Vint
open Go.ParB (upd Lof)
open Go.ParE (putS slotsR slots Closed)

theorem right12 {y : Rc} (h : rightB y = true) (hk : y.kind = 12) : ∃ a0 a1 a2 a3 a4, y.n = [a0, a1, a2, a3, a4] := by
  unfold rightB at h
  simp only [Bool.and_eq_true, decide_eq_true_eq] at h
  have hl : y.n.length = 5 := by rw [h.1.2, hk]; rfl
  match y.n, hl with
  | [a0, a1, a2, a3, a4], _ => exact ⟨a0, a1, a2, a3, a4, rfl⟩
theorem rdB_len {s : PS} (h : WF s) (n : Nm) : (rdB s n).length ≤ 1048576 := by
  have key : ∀ f, ((s.files.getD f ([], 0)).1).length ≤ 1048576 := fun f => by
    rw [List.getD_eq_getElem?_getD]
    cases hq : s.files[f]? with
    | none => simp
    | some z => exact (h.fl z (List.mem_of_getElem? hq)).2
  unfold rdB
  split
  · simp
  · cases look s.dir n with
    | none => simp
    | some f => exact key f
theorem setRow_fr16 (w : World) (b : Nat) (cs : Array Value) : Fr [b] w (w.setRow b cs) := ⟨rfl, rfl, rfl, Nat.le_of_eq (setRow_size w b cs).symm, fun j hj hn => setRow_other w b j cs (by simpa using hn)⟩
def RdQ2 (TY : Nat) (d : Nat) (W : World) (r : Rt) (i : Nat) (σ : Nat → Value) (w' : World) : Prop := Ext W w' ∧ match i with
  | 1 => ∃ g, σ d = pv g ∧ w'.heap[g]? = some (.cells #[.int .u64 0, .int .i64 0, .int .i64 0, .int .i64 0, .int .i64 0] TY (0, 0)) ∧ W.heap.size ≤ g
  | 2 => ∃ g, σ d = pv g ∧ w'.heap[g]? = some (.cells #[uv r.gen, .int .i64 r.lanes, .int .i64 r.pay, .int .i64 r.del, .int .i64 r.seg] TY (0, 0)) ∧ W.heap.size ≤ g
  | _ => True
theorem min_u64 (a : UInt64) : Value.int .u64 (min (a.toNat : Int) 99999) = Value.int .u64 ((mn99 a : Nat) : Int) := by
  unfold mn99
  congr 1
  split <;> omega
set_option maxHeartbeats 4000000 in
theorem readAll_any {B : Nat} {w : World} {p : Nat} {x : DX} {s : PS} (h : Dk B w p x s) (hw : WF s) (ht : Tab w) :
    Calls Tryz.prog 10 #[pv p] w fun e w' => e = .returned (.tuple #[rtV (rdAll s).1, .int .i64 (rdAll s).2]) ∧ Ext w w' := by
  have hc := dread_any nRoot nl.2 (h.ext (Ext.alloc w zr))
  obtain ⟨er, her⟩ : ∃ e, rdE s nRoot = e := ⟨_, rfl⟩
  obtain ⟨b, hb⟩ : ∃ b, rdB s nRoot = b := ⟨_, rfl⟩
  have HBL : Hid (b.length ≤ 1048576) := hid (by rw [← hb]; exact rdB_len hw nRoot)
  obtain ⟨A, hA⟩ : ∃ A, rdAll s = A := ⟨_, rfl⟩
  have HRA : Hid (A = if er = 0 then rdRec (rall 0 b) else (rt0, (er : Int))) := hid (by rw [← hA, ← her, ← hb]; rfl)
  rw [hA]
  unfold ReadP at hc
  rw [her, hb] at hc
  have HC := hid hc
  have hE := Ext.alloc w (.cells #[.int .u64 0, .int .i64 0, .int .i64 0, .int .i64 0, .int .i64 0] 35 (0, 0))
  have HB := hid (heap_alloc_new w (.cells #[.int .u64 0, .int .i64 0, .int .i64 0, .int .i64 0, .int .i64 0] 35 (0, 0)))
  have HE := hid hE
  have HT := hid ht
  clear h hc hE hb hA her hw ht
  go_enter Tryz.func10, Tryz.ntmps10
  go_wp2_with fail
  refine HC.out.mono ?_
  rintro e w2 ⟨⟨v, rfl, ho⟩, hx⟩
  have HB2 := hid (hx.obj HB.out)
  have HE2 := hid (HE.out.trans hx)
  have HO := hid ho
  obtain ⟨vo, vc, hve⟩ := ho.owv.shape
  obtain ⟨nb, hnb⟩ : ∃ n, b.length = n := ⟨_, rfl⟩
  have HNB : Hid (nb ≤ 1048576) := hid (by rw [← hnb]; exact HBL.out)
  rw [hnb] at hve
  subst hve
  clear hx ho hnb HB HE HC
  by_cases h0 : er = 0
  case neg =>
    have hne : ((er : Int) != 0) = true := by simpa using h0
    have HAV : Hid (A = (rt0, (er : Int))) := hid (by rw [HRA.out, if_neg h0])
    clear h0
    obtain ⟨k0, k1, k2, k3, k4, kf⟩ := blk5 HB2.out
    go_wp2
    refine bodyPost_ret (rread_results _ _ _ _ _ _ _ _ rfl (set5 HB2.out _ _ _ _ _)) rfl ?_
    rw [HAV.out]
    exact ⟨rfl, ext5 _ _ _ _ _ HE2.out (Nat.le_refl _)⟩
  subst h0
  have hz : (((0 : Nat) : Int) != 0) = false := by decide
  obtain ⟨⟨L, es, c⟩, hal⟩ : ∃ q, rall 0 b = q := ⟨_, rfl⟩
  have HRA2 : Hid (A = rdRec (L, es, c)) := hid (by rw [HRA.out, if_pos rfl, hal])
  have HRI : Hid (∀ y ∈ L, rightB y = true) := hid (fun y hy => rall_right (k := 0) (b := b) (by rw [hal]; exact hy))
  have HAL := hid hal
  clear hal
  go_wp2_with fail
  have hc := all5_any _ _ w2 HO.out.byt HBL.out (HT.out.ext HE2.out)
  unfold AllR5 at hc
  rw [HAL.out] at hc
  refine hc.mono ?_
  clear hc
  rintro e w3 ⟨v1, v2, rfl, hrc, hiv, hx⟩
  obtain ⟨io, ic, rfl⟩ := hiv.shape
  have HB3 := hid (hx.obj HB2.out)
  have HE3 := hid (HE2.out.trans hx)
  obtain ⟨m, hm, hrow, hns⟩ := hrc
  dsimp only at hm hrow hns hiv ⊢
  by_cases hc0 : c = 0
  case neg =>
    have hne : (c != 0) = true := by simpa using hc0
    have HAV : Hid (A = (rt0, c)) := hid (by rw [HRA2.out, rdRec_err hc0])
    clear hc0 hm hrow hns hiv hx
    obtain ⟨k0, k1, k2, k3, k4, kf⟩ := blk5 HB3.out
    go_wp2
    refine bodyPost_ret (rread_results _ _ _ _ _ _ _ _ rfl (set5 HB3.out _ _ _ _ _)) rfl ?_
    rw [HAV.out]
    exact ⟨rfl, ext5 _ _ _ _ _ HE3.out (Nat.le_refl _)⟩
  subst hc0
  have hz2 : ((0 : Int) != 0) = false := by decide
  obtain ⟨ro, rc, rfl⟩ : ∃ o c, v1 = .slice o m.length c := by
    rcases hrow.2 with ⟨hv, h0⟩ | ⟨g, c, cur, hv, _⟩
    · exact ⟨_, _, by rw [hv, h0]⟩
    · exact ⟨_, _, hv⟩
  have hml : m.length = L.length := by rw [← hm, List.length_map]
  by_cases hl1 : m.length = 1
  case neg =>
    have hne : ((m.length : Int) != 1) = true := by rw [bne_iff_ne]; omega
    have HAV : Hid (A = (rt0, 2)) := hid (by rw [HRA2.out, rdRec_len (by rw [← hml]; exact hl1)])
    clear hl1 hml hm hrow hns hiv hx
    obtain ⟨k0, k1, k2, k3, k4, kf⟩ := blk5 HB3.out
    go_wp2
    refine bodyPost_ret (rread_results _ _ _ _ _ _ _ _ rfl (set5 HB3.out _ _ _ _ _)) rfl ?_
    rw [HAV.out]
    exact ⟨rfl, ext5 _ _ _ _ _ HE3.out (Nat.le_refl _)⟩
  obtain ⟨⟨y, nv⟩, rfl⟩ : ∃ q, m = [q] := List.length_eq_one_iff.1 hl1
  have hL : L = [y] := by rw [← hm]; rfl
  subst hL
  have hry := HRI.out y (by simp)
  have hn5 := hns _ (List.mem_singleton.2 rfl)
  have hrow2 : w3.ownsRow w2.heap.size 77 3 (.slice ro 1 rc) 1 [.int .i64 y.kind, nv, .string (str y.text)] := hrow
  obtain ⟨g, rfl, hg1, hg2⟩ : ∃ g, ro = some ⟨g, 0, none⟩ ∧ 1 ≤ rc ∧ rc ≤ 9223372036854775807 := by
    rcases hrow2.2 with ⟨hv, h0⟩ | ⟨g, c, cur, hv, hb, hgg, h1, h2, -⟩
    · omega
    · cases hv; exact ⟨g, rfl, h1, by simpa [maxLen] using h2⟩
  have r0 := World.ownsRow.cellAt hrow2 0 (by simp)
  have r1 := World.ownsRow.cellAt hrow2 1 (by simp)
  dsimp only at hn5
  obtain ⟨yk, hyk⟩ : ∃ k, y.kind = k := ⟨_, rfl⟩
  replace r0 : w3.cell? ⟨g, 0, none⟩ = some (.int .i64 yk) := by rw [← hyk]; exact r0
  replace r1 : w3.cell? ⟨g, 1, none⟩ = some nv := r1
  have hl11 : (([(y, nv)] : List (Rc × Value)).length : Int) = 1 := rfl
  simp only [List.length_cons, List.length_nil, Nat.zero_add] at hrow ⊢
  by_cases hk : yk = 12
  case neg =>
    have hne : (yk != 12) = true := by simpa using hk
    have HAV : Hid (A = (rt0, 2)) := hid (by rw [HRA2.out, rdRec_kind (by rw [hyk]; exact hk)])
    clear hk hyk hl1 hml hm hrow hns hiv hx hrow2 hn5 hl11 hry
    obtain ⟨k0, k1, k2, k3, k4, kf⟩ := blk5 HB3.out
    go_wp2
    refine bodyPost_ret (rread_results _ _ _ _ _ _ _ _ rfl (set5 HB3.out _ _ _ _ _)) rfl ?_
    rw [HAV.out]
    exact ⟨rfl, ext5 _ _ _ _ _ HE3.out (Nat.le_refl _)⟩
  subst hk
  obtain ⟨gen, a1, a2, a3, a4, hyn⟩ := right12 hry hyk
  rw [hyn] at hn5
  have HRA3 : Hid (A = tellR (mkR (fun a => IntKind.i64.wrap (a.toNat : Int)) gen a1 a2 a3 a4)) := hid (by rw [HRA2.out]; exact rdRec_one gen a1 a2 a3 a4 hyk hyn okW_wrap)
  obtain ⟨gn, nc, rfl, hn1, hn2⟩ : ∃ g cap, nv = .slice (some ⟨g, 0, none⟩) 5 cap ∧ 5 ≤ cap ∧ cap ≤ 9223372036854775807 := by
    have h9 : w3.ownsRow w2.heap.size 31 1 nv 5 ([gen, a1, a2, a3, a4].map uv) := hn5
    rcases h9.2 with ⟨hv, h0⟩ | ⟨g, c, cur, hv, hb, hgg, h1, h2, -⟩
    · omega
    · exact ⟨g, c, hv, h1, by simpa [maxLen] using h2⟩
  have HN := hid (fun (j : Nat) (hj : j < 5) => hn5.cell j (by simpa using hj))
  obtain ⟨l, hl⟩ : ∃ i, (fun a => IntKind.i64.wrap (a.toNat : Int)) a1 = i := ⟨_, rfl⟩
  obtain ⟨pa, hp⟩ : ∃ i, (fun a => IntKind.i64.wrap (a.toNat : Int)) a2 = i := ⟨_, rfl⟩
  obtain ⟨de, hd9⟩ : ∃ i, (fun a => IntKind.i64.wrap (a.toNat : Int)) a3 = i := ⟨_, rfl⟩
  obtain ⟨se, hse⟩ : ∃ i, (fun a => IntKind.i64.wrap (a.toNat : Int)) a4 = i := ⟨_, rfl⟩
  have HW := hid (And.intro hl (And.intro hp (And.intro hd9 hse)))
  have HRA4 : Hid (A = tellR ⟨gen, l, pa, de, se⟩) := hid (by rw [HRA3.out]; unfold mkR; rw [hl, hp, hd9, hse])
  clear hl hp hd9 hse hyk hyn hry hl1 hml hm hrow hns hiv hx hrow2 hn5 hl11 HO HAL HRA HRA2 HRA3
  go_wp2
  clear r0 r1
  refine ParE.wp_region_e (l := [_, _, _, _, _, _, _, _, _, _, _, _, _, _, _, _, _, _, _, _, _, _, _]) rfl (Rg.Ch [21, 22] [9] (RdQ2 35 9 w3 ⟨gen, l, pa, de, se⟩)) (ParC.VC [ParC.EQ (Value.slice (some ⟨gn, 0, none⟩) 5 nc), ParC.EQ (Value.pointer (some ⟨gn, 0, none⟩)), ParC.EQ (uv gen), ParC.EQ (Value.slice (some ⟨gn, 0, none⟩) 5 nc), ParC.EQ (Value.pointer (some ⟨gn, 1, none⟩)), ParC.EQ (uv a1), ParC.EQ (Value.int IntKind.i64 l), ParC.EQ (Value.slice (some ⟨gn, 0, none⟩) 5 nc), ParC.EQ (Value.pointer (some ⟨gn, 2, none⟩)), ParC.EQ (uv a2), ParC.EQ (Value.int IntKind.i64 pa), ParC.EQ (Value.slice (some ⟨gn, 0, none⟩) 5 nc), ParC.EQ (Value.pointer (some ⟨gn, 3, none⟩)), ParC.EQ (uv a3), ParC.EQ (Value.int IntKind.i64 de), ParC.EQ (Value.agg #[Value.int IntKind.i64 l, Value.int IntKind.i64 pa, Value.int IntKind.i64 de]), ParC.EQ (Value.slice (some ⟨gn, 0, none⟩) 5 nc), ParC.EQ (Value.pointer (some ⟨gn, 4, none⟩)), ParC.EQ (uv a4), ParC.EQ (Value.int IntKind.i64 se), ParC.EQ (Value.agg #[uv gen, Value.int IntKind.i64 l, Value.int IntKind.i64 pa, Value.int IntKind.i64 de, Value.int IntKind.i64 se]), (fun _ => True), fun _ => True]) (by kernel_rfl) (by kernel_rfl) (Rg.Ch.start ⟨Ext.draw _, trivial⟩) ?_ ?_
  · refine ⟨fun L ρ w' hR hC hL hd hk => ?_, ?_⟩
    · exact Par.val_of_run rfl ⟨hR.other (by decide), hk.1⟩
    refine ⟨fun L ρ w' hR hC hL hd hk => ?_, ?_⟩
    · obtain ⟨k0, k1, -⟩ := hk
      have e0 : ρ (.tmp 44) = Value.slice (some ⟨gn, 0, none⟩) 5 nc := k0
      have e1 : ρ (Operand.const (Value.int IntKind.i64 0)) = (Value.int IntKind.i64 0) := k1
      clear k0 k1
      refine Par.val_k fun K hK => ?_
      unfold Par.val
      (go_simp; exact hK _ _ ⟨hR.other (by decide), rfl⟩)
    refine ⟨fun L ρ w' hR hC hL hd hk => ?_, ?_⟩
    · obtain ⟨k0, -⟩ := hk
      have e0 : ρ (.tmp 45) = Value.pointer (some ⟨gn, 0, none⟩) := k0
      clear k0
      refine Par.val_k fun K hK => ?_
      unfold Par.val
      (obtain ⟨i, hi, hq⟩ := hR.some 1 rfl (hC.notyet 22 2 hL (by kernel_rfl)); have cc := hq.1.cell (HN.out 0 (by omega)); go_simp; exact hK _ _ ⟨hR.other (by decide), rfl⟩)
    refine ⟨fun L ρ w' hR hC hL hd hk => ?_, ?_⟩
    · exact Par.val_of_run rfl ⟨hR.other (by decide), hk.1⟩
    refine ⟨fun L ρ w' hR hC hL hd hk => ?_, ?_⟩
    · obtain ⟨k0, k1, -⟩ := hk
      have e0 : ρ (.tmp 47) = Value.slice (some ⟨gn, 0, none⟩) 5 nc := k0
      have e1 : ρ (Operand.const (Value.int IntKind.i64 1)) = (Value.int IntKind.i64 1) := k1
      clear k0 k1
      refine Par.val_k fun K hK => ?_
      unfold Par.val
      (go_simp; exact hK _ _ ⟨hR.other (by decide), rfl⟩)
    refine ⟨fun L ρ w' hR hC hL hd hk => ?_, ?_⟩
    · obtain ⟨k0, -⟩ := hk
      have e0 : ρ (.tmp 48) = Value.pointer (some ⟨gn, 1, none⟩) := k0
      clear k0
      refine Par.val_k fun K hK => ?_
      unfold Par.val
      (obtain ⟨i, hi, hq⟩ := hR.some 1 rfl (hC.notyet 22 5 hL (by kernel_rfl)); have cc := hq.1.cell (HN.out 1 (by omega)); go_simp; exact hK _ _ ⟨hR.other (by decide), rfl⟩)
    refine ⟨fun L ρ w' hR hC hL hd hk => ?_, ?_⟩
    · obtain ⟨k0, -⟩ := hk
      have e0 : ρ (.tmp 49) = uv a1 := k0
      clear k0
      refine Par.val_k fun K hK => ?_
      unfold Par.val
      (have hwr := HW.out.1; go_simp; exact hK _ _ ⟨hR.other (by decide), by first | rfl | exact congrArg (Value.int .i64) hwr⟩)
    refine ⟨fun L ρ w' hR hC hL hd hk => ?_, ?_⟩
    · exact Par.val_of_run rfl ⟨hR.other (by decide), hk.1⟩
    refine ⟨fun L ρ w' hR hC hL hd hk => ?_, ?_⟩
    · obtain ⟨k0, k1, -⟩ := hk
      have e0 : ρ (.tmp 51) = Value.slice (some ⟨gn, 0, none⟩) 5 nc := k0
      have e1 : ρ (Operand.const (Value.int IntKind.i64 2)) = (Value.int IntKind.i64 2) := k1
      clear k0 k1
      refine Par.val_k fun K hK => ?_
      unfold Par.val
      (go_simp; exact hK _ _ ⟨hR.other (by decide), rfl⟩)
    refine ⟨fun L ρ w' hR hC hL hd hk => ?_, ?_⟩
    · obtain ⟨k0, -⟩ := hk
      have e0 : ρ (.tmp 52) = Value.pointer (some ⟨gn, 2, none⟩) := k0
      clear k0
      refine Par.val_k fun K hK => ?_
      unfold Par.val
      (obtain ⟨i, hi, hq⟩ := hR.some 1 rfl (hC.notyet 22 9 hL (by kernel_rfl)); have cc := hq.1.cell (HN.out 2 (by omega)); go_simp; exact hK _ _ ⟨hR.other (by decide), rfl⟩)
    refine ⟨fun L ρ w' hR hC hL hd hk => ?_, ?_⟩
    · obtain ⟨k0, -⟩ := hk
      have e0 : ρ (.tmp 53) = uv a2 := k0
      clear k0
      refine Par.val_k fun K hK => ?_
      unfold Par.val
      (have hwr := HW.out.2.1; go_simp; exact hK _ _ ⟨hR.other (by decide), by first | rfl | exact congrArg (Value.int .i64) hwr⟩)
    refine ⟨fun L ρ w' hR hC hL hd hk => ?_, ?_⟩
    · exact Par.val_of_run rfl ⟨hR.other (by decide), hk.1⟩
    refine ⟨fun L ρ w' hR hC hL hd hk => ?_, ?_⟩
    · obtain ⟨k0, k1, -⟩ := hk
      have e0 : ρ (.tmp 55) = Value.slice (some ⟨gn, 0, none⟩) 5 nc := k0
      have e1 : ρ (Operand.const (Value.int IntKind.i64 3)) = (Value.int IntKind.i64 3) := k1
      clear k0 k1
      refine Par.val_k fun K hK => ?_
      unfold Par.val
      (go_simp; exact hK _ _ ⟨hR.other (by decide), rfl⟩)
    refine ⟨fun L ρ w' hR hC hL hd hk => ?_, ?_⟩
    · obtain ⟨k0, -⟩ := hk
      have e0 : ρ (.tmp 56) = Value.pointer (some ⟨gn, 3, none⟩) := k0
      clear k0
      refine Par.val_k fun K hK => ?_
      unfold Par.val
      (obtain ⟨i, hi, hq⟩ := hR.some 1 rfl (hC.notyet 22 13 hL (by kernel_rfl)); have cc := hq.1.cell (HN.out 3 (by omega)); go_simp; exact hK _ _ ⟨hR.other (by decide), rfl⟩)
    refine ⟨fun L ρ w' hR hC hL hd hk => ?_, ?_⟩
    · obtain ⟨k0, -⟩ := hk
      have e0 : ρ (.tmp 57) = uv a3 := k0
      clear k0
      refine Par.val_k fun K hK => ?_
      unfold Par.val
      (have hwr := HW.out.2.2.1; go_simp; exact hK _ _ ⟨hR.other (by decide), by first | rfl | exact congrArg (Value.int .i64) hwr⟩)
    refine ⟨fun L ρ w' hR hC hL hd hk => ?_, ?_⟩
    · obtain ⟨k0, k1, k2, -⟩ := hk
      have e0 : ρ (.tmp 50) = Value.int IntKind.i64 l := k0
      have e1 : ρ (.tmp 54) = Value.int IntKind.i64 pa := k1
      have e2 : ρ (.tmp 58) = Value.int IntKind.i64 de := k2
      clear k0 k1 k2
      refine Par.val_k fun K hK => ?_
      unfold Par.val
      (go_simp; exact hK _ _ ⟨hR.other (by decide), rfl⟩)
    refine ⟨fun L ρ w' hR hC hL hd hk => ?_, ?_⟩
    · exact Par.val_of_run rfl ⟨hR.other (by decide), hk.1⟩
    refine ⟨fun L ρ w' hR hC hL hd hk => ?_, ?_⟩
    · obtain ⟨k0, k1, -⟩ := hk
      have e0 : ρ (.tmp 60) = Value.slice (some ⟨gn, 0, none⟩) 5 nc := k0
      have e1 : ρ (Operand.const (Value.int IntKind.i64 4)) = (Value.int IntKind.i64 4) := k1
      clear k0 k1
      refine Par.val_k fun K hK => ?_
      unfold Par.val
      (go_simp; exact hK _ _ ⟨hR.other (by decide), rfl⟩)
    refine ⟨fun L ρ w' hR hC hL hd hk => ?_, ?_⟩
    · obtain ⟨k0, -⟩ := hk
      have e0 : ρ (.tmp 61) = Value.pointer (some ⟨gn, 4, none⟩) := k0
      clear k0
      refine Par.val_k fun K hK => ?_
      unfold Par.val
      (obtain ⟨i, hi, hq⟩ := hR.some 1 rfl (hC.notyet 22 18 hL (by kernel_rfl)); have cc := hq.1.cell (HN.out 4 (by omega)); go_simp; exact hK _ _ ⟨hR.other (by decide), rfl⟩)
    refine ⟨fun L ρ w' hR hC hL hd hk => ?_, ?_⟩
    · obtain ⟨k0, -⟩ := hk
      have e0 : ρ (.tmp 62) = uv a4 := k0
      clear k0
      refine Par.val_k fun K hK => ?_
      unfold Par.val
      (have hwr := HW.out.2.2.2; go_simp; exact hK _ _ ⟨hR.other (by decide), by first | rfl | exact congrArg (Value.int .i64) hwr⟩)
    refine ⟨fun L ρ w' hR hC hL hd hk => ?_, ?_⟩
    · obtain ⟨k0, k1, k2, -⟩ := hk
      have e0 : ρ (.tmp 46) = uv gen := k0
      have e1 : ρ (.tmp 59) = Value.agg #[Value.int IntKind.i64 l, Value.int IntKind.i64 pa, Value.int IntKind.i64 de] := k1
      have e2 : ρ (.tmp 63) = Value.int IntKind.i64 se := k2
      clear k0 k1 k2
      refine Par.val_k fun K hK => ?_
      unfold Par.val
      (go_simp; exact hK _ _ ⟨hR.other (by decide), rfl⟩)
    refine ⟨fun L ρ w' hR hC hL hd hk => ?_, ?_⟩
    · obtain ⟨-⟩ := hk
      skip
      refine Par.val_k fun K hK => ?_
      unfold Par.val
      (obtain ⟨hq, hs⟩ := hR.go 0 rfl hL (.inl rfl) (by decide); have hx := hq.1; go_simp; exact hK _ _ ⟨hs _ _ _ ⟨hx.trans (Ext.alloc _ _), w'.heap.size, rfl, heap_alloc_new _ _, hx.size⟩, trivial⟩)
    refine ⟨fun L ρ w' hR hC hL hd hk => ?_, ?_⟩
    · obtain ⟨k0, k1, -⟩ := hk
      have e0 : (fun _ => True) (ρ (.tmp 9))  := k0
      have e1 : ρ (.tmp 64) = Value.agg #[uv gen, Value.int IntKind.i64 l, Value.int IntKind.i64 pa, Value.int IntKind.i64 de, Value.int IntKind.i64 se] := k1
      clear k0 k1
      refine Par.val_k fun K hK => ?_
      unfold Par.val
      (obtain ⟨hq, hs⟩ := hR.go 1 rfl hL (.inr ⟨21, rfl, hC.before 21 (i := 22) rfl hd (by kernel_rfl)⟩) (by decide); obtain ⟨g9, hg9, hgb, hgs⟩ := hq.2; have e9 : ρ (.tmp 9) = pv g9 := hg9; obtain ⟨k0, k1, k2, k3, k4, kf⟩ := blk5 hgb; have hset := set5 hgb (uv gen) (.int .i64 l) (.int .i64 pa) (.int .i64 de) (.int .i64 se); have hext := ext5 (uv gen) (.int .i64 l) (.int .i64 pa) (.int .i64 de) (.int .i64 se) hq.1 hgs; have HSET := hid hset; have HEXT := hid hext; clear hset hext hgb; go_simp; exact hK _ _ ⟨hs none _ _ ⟨HEXT.out, g9, hg9, HSET.out, hgs⟩, trivial⟩)
    trivial
  intro a' w' inv hR
  have q44 : a'.tmps.getD 44 undef = Value.slice (some ⟨gn, 0, none⟩) 5 nc := inv.done 0 _ 44 rfl rfl rfl
  have q45 : a'.tmps.getD 45 undef = Value.pointer (some ⟨gn, 0, none⟩) := inv.done 1 _ 45 rfl rfl rfl
  have q46 : a'.tmps.getD 46 undef = uv gen := inv.done 2 _ 46 rfl rfl rfl
  have q47 : a'.tmps.getD 47 undef = Value.slice (some ⟨gn, 0, none⟩) 5 nc := inv.done 3 _ 47 rfl rfl rfl
  have q48 : a'.tmps.getD 48 undef = Value.pointer (some ⟨gn, 1, none⟩) := inv.done 4 _ 48 rfl rfl rfl
  have q49 : a'.tmps.getD 49 undef = uv a1 := inv.done 5 _ 49 rfl rfl rfl
  have q50 : a'.tmps.getD 50 undef = Value.int IntKind.i64 l := inv.done 6 _ 50 rfl rfl rfl
  have q51 : a'.tmps.getD 51 undef = Value.slice (some ⟨gn, 0, none⟩) 5 nc := inv.done 7 _ 51 rfl rfl rfl
  have q52 : a'.tmps.getD 52 undef = Value.pointer (some ⟨gn, 2, none⟩) := inv.done 8 _ 52 rfl rfl rfl
  have q53 : a'.tmps.getD 53 undef = uv a2 := inv.done 9 _ 53 rfl rfl rfl
  have q54 : a'.tmps.getD 54 undef = Value.int IntKind.i64 pa := inv.done 10 _ 54 rfl rfl rfl
  have q55 : a'.tmps.getD 55 undef = Value.slice (some ⟨gn, 0, none⟩) 5 nc := inv.done 11 _ 55 rfl rfl rfl
  have q56 : a'.tmps.getD 56 undef = Value.pointer (some ⟨gn, 3, none⟩) := inv.done 12 _ 56 rfl rfl rfl
  have q57 : a'.tmps.getD 57 undef = uv a3 := inv.done 13 _ 57 rfl rfl rfl
  have q58 : a'.tmps.getD 58 undef = Value.int IntKind.i64 de := inv.done 14 _ 58 rfl rfl rfl
  have q59 : a'.tmps.getD 59 undef = Value.agg #[Value.int IntKind.i64 l, Value.int IntKind.i64 pa, Value.int IntKind.i64 de] := inv.done 15 _ 59 rfl rfl rfl
  have q60 : a'.tmps.getD 60 undef = Value.slice (some ⟨gn, 0, none⟩) 5 nc := inv.done 16 _ 60 rfl rfl rfl
  have q61 : a'.tmps.getD 61 undef = Value.pointer (some ⟨gn, 4, none⟩) := inv.done 17 _ 61 rfl rfl rfl
  have q62 : a'.tmps.getD 62 undef = uv a4 := inv.done 18 _ 62 rfl rfl rfl
  have q63 : a'.tmps.getD 63 undef = Value.int IntKind.i64 se := inv.done 19 _ 63 rfl rfl rfl
  have q64 : a'.tmps.getD 64 undef = Value.agg #[uv gen, Value.int IntKind.i64 l, Value.int IntKind.i64 pa, Value.int IntKind.i64 de, Value.int IntKind.i64 se] := inv.done 20 _ 64 rfl rfl rfl
  have q9 : (fun _ => True) (a'.tmps.getD 9 undef)  := inv.done 21 _ 9 rfl rfl rfl
  clear inv
  simp only [List.filterMap_cons, List.filterMap_nil, Par.putAll, Act.put, List.setIfInBounds_toArray, List.set_cons_succ, List.set_cons_zero, q44, q45, q46, q47, q48, q49, q50, q51, q52, q53, q54, q55, q56, q57, q58, q59, q60, q61, q62, q63, q64]
  clear q44 q45 q46 q47 q48 q49 q50 q51 q52 q53 q54 q55 q56 q57 q58 q59 q60 q61 q62 q63 q64
  obtain ⟨hx, g9, hg9, hgb, hgs⟩ := Rg.Ch.fin hR (by decide) 2 rfl; have HX9 := hid hx; have HG9 := hid hgb; have hg99 : a'.tmps.getD 9 undef = pv g9 := hg9; rw [hg99]; clear hx hgb hg9 hR
  generalize a'.tmps.getD 9 undef = u9 at *
  try clear a'
  have hg := HG9.out
  obtain ⟨k0, k1, k2, k3, k4, kf⟩ := blk5 hg
  clear hg
  go_wp2_with fail
  obtain ⟨RB, hRB⟩ : ∃ q, rtB ⟨gen, l, pa, de, se⟩ = q := ⟨_, rfl⟩
  have hc := rt_any ⟨gen, l, pa, de, se⟩ w'
  rw [hRB] at hc
  have HRB := hid hRB
  refine hc.mono ?_
  clear hc hRB
  rintro e w6 ⟨rfl, hx⟩
  have HG6 := hid (hx.obj HG9.out)
  have HB6 := hid (hx.obj (HX9.out.obj HB3.out))
  have HE6 := hid (HE3.out.trans (HX9.out.trans hx))
  clear hx k0 k1 k2 k3 k4 kf
  cases RB
  case false =>
    have HAV : Hid (A = (rt0, 2)) := hid (by rw [HRA4.out]; unfold tellR; rw [HRB.out]; rfl)
    obtain ⟨k0, k1, k2, k3, k4, kf⟩ := blk5 HB6.out
    go_wp2
    refine bodyPost_ret (rread_results _ _ _ _ _ _ _ _ rfl (set5 HB6.out _ _ _ _ _)) rfl ?_
    rw [HAV.out]
    exact ⟨rfl, ext5 _ _ _ _ _ HE6.out (Nat.le_refl _)⟩
  have HAV : Hid (A = (⟨gen, l, pa, de, se⟩, 0)) := hid (by rw [HRA4.out]; unfold tellR; rw [HRB.out]; rfl)
  obtain ⟨j0, j1, j2, j3, j4, jf⟩ := blk5 HG6.out
  obtain ⟨k0, k1, k2, k3, k4, kf⟩ := blk5 HB6.out
  go_wp2_with (first | (refine wpList_load_row rfl 35 (.tmp 9) rfl g9 rfl 35 #[uv gen, .int .i64 l, .int .i64 pa, .int .i64 de, .int .i64 se] (0, 0) _ HG6.out Tryz.underlying35 rfl (by kernel_rfl) ?_) | (refine wpList_store_row rfl 35 (.tmp 2) (.tmp 69) rfl w.heap.size #[uv gen, .int .i64 l, .int .i64 pa, .int .i64 de, .int .i64 se] rfl rfl 35 _ HB6.out (by kernel_rfl) rfl (by simp [Value.oneCell']) ?_) | (refine bodyPost_ret (rread_results _ _ _ _ _ _ _ _ rfl (setRow_heap _ _ _ _ _ _ HB6.out)) rfl ?_; rw [HAV.out]; exact ⟨rfl, HE6.out.below ((setRow_fr16 _ _ _).below (by simp) HE6.out.size)⟩))
theorem rrread_results (tmps : Array Value) (w : World) (B : Nat) (v0 v1 v2 v3 v4 : Value) (h2 : tmps.getD 2 undef = .pointer (some ⟨B, 0, none⟩)) (m : w.heap[B]? = some (.cells #[v0, v1, v2, v3, v4] 42 (0, 0))) :
    (results Tryz.f11 tmps).run Tryz.prog w = .ok (.tuple #[.agg #[v0, v1, v2, v3, v4], tmps.getD 3 undef]) w := by
  have h2' : tmps[2]?.getD undef = .pointer (some ⟨B, 0, none⟩) := by simpa using h2
  obtain ⟨m0, m1, m2, m3, m4, -⟩ := blk5 m
  simp [results, Tryz.results11, go_sem, h2', m0, m1, m2, m3, m4]
set_option maxHeartbeats 4000000 in
theorem rreadAll_any {B : Nat} {w : World} {r : Nat} {y : RX} {s : PS} (h : RD B w r y s) (hw : WF s) :
    Calls Tryz.prog 11 #[pv r] w fun e w' => e = .returned (.tuple #[rtV (rdAll s).1, .int .i64 (rdAll s).2]) ∧ Ext w w' := by
  have hc := rread_any nRoot (h.ext (Ext.alloc w (rtO16 rt0))) hw
  obtain ⟨er, her⟩ : ∃ e, rdE s nRoot = e := ⟨_, rfl⟩
  obtain ⟨b, hb⟩ : ∃ b, rdB s nRoot = b := ⟨_, rfl⟩
  have HBL : Hid (b.length ≤ 1048576) := hid (by rw [← hb]; exact rdB_len hw nRoot)
  obtain ⟨A, hA⟩ : ∃ A, rdAll s = A := ⟨_, rfl⟩
  have HRA : Hid (A = if er = 0 then rdRec (rall 0 b) else (rt0, (er : Int))) := hid (by rw [← hA, ← her, ← hb]; rfl)
  rw [hA]
  unfold ReadP at hc
  rw [her, hb] at hc
  have HC := hid hc
  have hE := Ext.alloc w (.cells #[.int .u64 0, .int .i64 0, .int .i64 0, .int .i64 0, .int .i64 0] 42 (0, 0))
  have HB := hid (heap_alloc_new w (.cells #[.int .u64 0, .int .i64 0, .int .i64 0, .int .i64 0, .int .i64 0] 42 (0, 0)))
  have HE := hid hE
  skip
  clear h hc hE hb hA her hw
  go_enter Tryz.func11, Tryz.ntmps11
  go_wp2_with fail
  refine HC.out.mono ?_
  rintro e w2 ⟨⟨v, rfl, ho⟩, hx⟩
  have HB2 := hid (hx.obj HB.out)
  have HE2 := hid (HE.out.trans hx)
  have HO := hid ho
  obtain ⟨vo, vc, hve⟩ := ho.owv.shape
  obtain ⟨nb, hnb⟩ : ∃ n, b.length = n := ⟨_, rfl⟩
  have HNB : Hid (nb ≤ 1048576) := hid (by rw [← hnb]; exact HBL.out)
  rw [hnb] at hve
  subst hve
  clear hx ho hnb HB HE HC
  by_cases h0 : er = 0
  case neg =>
    have hne : ((er : Int) != 0) = true := by simpa using h0
    have HAV : Hid (A = (rt0, (er : Int))) := hid (by rw [HRA.out, if_neg h0])
    clear h0
    obtain ⟨k0, k1, k2, k3, k4, kf⟩ := blk5 HB2.out
    go_wp2
    refine bodyPost_ret (rrread_results _ _ _ _ _ _ _ _ rfl (set5 HB2.out _ _ _ _ _)) rfl ?_
    rw [HAV.out]
    exact ⟨rfl, ext5 _ _ _ _ _ HE2.out (Nat.le_refl _)⟩
  subst h0
  have hz : (((0 : Nat) : Int) != 0) = false := by decide
  obtain ⟨⟨L, es, c⟩, hal⟩ : ∃ q, rall 0 b = q := ⟨_, rfl⟩
  have HRA2 : Hid (A = rdRec (L, es, c)) := hid (by rw [HRA.out, if_pos rfl, hal])
  have HRI : Hid (∀ y ∈ L, rightB y = true) := hid (fun y hy => rall_right (k := 0) (b := b) (by rw [hal]; exact hy))
  have HAL := hid hal
  clear hal
  go_wp2_with fail
  have hc := rall5_any _ _ w2 HO.out.byt HBL.out
  unfold AllR5 at hc
  rw [HAL.out] at hc
  refine hc.mono ?_
  clear hc
  rintro e w3 ⟨v1, v2, rfl, hrc, hiv, hx⟩
  obtain ⟨io, ic, rfl⟩ := hiv.shape
  have HB3 := hid (hx.obj HB2.out)
  have HE3 := hid (HE2.out.trans hx)
  obtain ⟨m, hm, hrow, hns⟩ := hrc
  dsimp only at hm hrow hns hiv ⊢
  by_cases hc0 : c = 0
  case neg =>
    have hne : (c != 0) = true := by simpa using hc0
    have HAV : Hid (A = (rt0, c)) := hid (by rw [HRA2.out, rdRec_err hc0])
    clear hc0 hm hrow hns hiv hx
    obtain ⟨k0, k1, k2, k3, k4, kf⟩ := blk5 HB3.out
    go_wp2
    refine bodyPost_ret (rrread_results _ _ _ _ _ _ _ _ rfl (set5 HB3.out _ _ _ _ _)) rfl ?_
    rw [HAV.out]
    exact ⟨rfl, ext5 _ _ _ _ _ HE3.out (Nat.le_refl _)⟩
  subst hc0
  have hz2 : ((0 : Int) != 0) = false := by decide
  obtain ⟨ro, rc, rfl⟩ : ∃ o c, v1 = .slice o m.length c := by
    rcases hrow.2 with ⟨hv, h0⟩ | ⟨g, c, cur, hv, _⟩
    · exact ⟨_, _, by rw [hv, h0]⟩
    · exact ⟨_, _, hv⟩
  have hml : m.length = L.length := by rw [← hm, List.length_map]
  by_cases hl1 : m.length = 1
  case neg =>
    have hne : ((m.length : Int) != 1) = true := by rw [bne_iff_ne]; omega
    have HAV : Hid (A = (rt0, 2)) := hid (by rw [HRA2.out, rdRec_len (by rw [← hml]; exact hl1)])
    clear hl1 hml hm hrow hns hiv hx
    obtain ⟨k0, k1, k2, k3, k4, kf⟩ := blk5 HB3.out
    go_wp2
    refine bodyPost_ret (rrread_results _ _ _ _ _ _ _ _ rfl (set5 HB3.out _ _ _ _ _)) rfl ?_
    rw [HAV.out]
    exact ⟨rfl, ext5 _ _ _ _ _ HE3.out (Nat.le_refl _)⟩
  obtain ⟨⟨y, nv⟩, rfl⟩ : ∃ q, m = [q] := List.length_eq_one_iff.1 hl1
  have hL : L = [y] := by rw [← hm]; rfl
  subst hL
  have hry := HRI.out y (by simp)
  have hn5 := hns _ (List.mem_singleton.2 rfl)
  have hrow2 : w3.ownsRow w2.heap.size 82 3 (.slice ro 1 rc) 1 [.int .i64 y.kind, nv, .string (str y.text)] := hrow
  obtain ⟨g, rfl, hg1, hg2⟩ : ∃ g, ro = some ⟨g, 0, none⟩ ∧ 1 ≤ rc ∧ rc ≤ 9223372036854775807 := by
    rcases hrow2.2 with ⟨hv, h0⟩ | ⟨g, c, cur, hv, hb, hgg, h1, h2, -⟩
    · omega
    · cases hv; exact ⟨g, rfl, h1, by simpa [maxLen] using h2⟩
  have r0 := World.ownsRow.cellAt hrow2 0 (by simp)
  have r1 := World.ownsRow.cellAt hrow2 1 (by simp)
  dsimp only at hn5
  obtain ⟨yk, hyk⟩ : ∃ k, y.kind = k := ⟨_, rfl⟩
  replace r0 : w3.cell? ⟨g, 0, none⟩ = some (.int .i64 yk) := by rw [← hyk]; exact r0
  replace r1 : w3.cell? ⟨g, 1, none⟩ = some nv := r1
  have hl11 : (([(y, nv)] : List (Rc × Value)).length : Int) = 1 := rfl
  simp only [List.length_cons, List.length_nil, Nat.zero_add] at hrow ⊢
  by_cases hk : yk = 12
  case neg =>
    have hne : (yk != 12) = true := by simpa using hk
    have HAV : Hid (A = (rt0, 2)) := hid (by rw [HRA2.out, rdRec_kind (by rw [hyk]; exact hk)])
    clear hk hyk hl1 hml hm hrow hns hiv hx hrow2 hn5 hl11 hry
    obtain ⟨k0, k1, k2, k3, k4, kf⟩ := blk5 HB3.out
    go_wp2
    refine bodyPost_ret (rrread_results _ _ _ _ _ _ _ _ rfl (set5 HB3.out _ _ _ _ _)) rfl ?_
    rw [HAV.out]
    exact ⟨rfl, ext5 _ _ _ _ _ HE3.out (Nat.le_refl _)⟩
  subst hk
  obtain ⟨gen, a1, a2, a3, a4, hyn⟩ := right12 hry hyk
  rw [hyn] at hn5
  have HRA3 : Hid (A = tellR (mkR (fun a => IntKind.i64.wrap ((mn99 a : Nat) : Int)) gen a1 a2 a3 a4)) := hid (by rw [HRA2.out]; exact rdRec_one gen a1 a2 a3 a4 hyk hyn okW_min)
  obtain ⟨gn, nc, rfl, hn1, hn2⟩ : ∃ g cap, nv = .slice (some ⟨g, 0, none⟩) 5 cap ∧ 5 ≤ cap ∧ cap ≤ 9223372036854775807 := by
    have h9 : w3.ownsRow w2.heap.size 31 1 nv 5 ([gen, a1, a2, a3, a4].map uv) := hn5
    rcases h9.2 with ⟨hv, h0⟩ | ⟨g, c, cur, hv, hb, hgg, h1, h2, -⟩
    · omega
    · exact ⟨g, c, hv, h1, by simpa [maxLen] using h2⟩
  have HN := hid (fun (j : Nat) (hj : j < 5) => hn5.cell j (by simpa using hj))
  obtain ⟨l, hl⟩ : ∃ i, (fun a => IntKind.i64.wrap ((mn99 a : Nat) : Int)) a1 = i := ⟨_, rfl⟩
  obtain ⟨pa, hp⟩ : ∃ i, (fun a => IntKind.i64.wrap ((mn99 a : Nat) : Int)) a2 = i := ⟨_, rfl⟩
  obtain ⟨de, hd9⟩ : ∃ i, (fun a => IntKind.i64.wrap ((mn99 a : Nat) : Int)) a3 = i := ⟨_, rfl⟩
  obtain ⟨se, hse⟩ : ∃ i, (fun a => IntKind.i64.wrap ((mn99 a : Nat) : Int)) a4 = i := ⟨_, rfl⟩
  have HW := hid (And.intro hl (And.intro hp (And.intro hd9 hse)))
  have HRA4 : Hid (A = tellR ⟨gen, l, pa, de, se⟩) := hid (by rw [HRA3.out]; unfold mkR; rw [hl, hp, hd9, hse])
  clear hl hp hd9 hse hyk hyn hry hl1 hml hm hrow hns hiv hx hrow2 hn5 hl11 HO HAL HRA HRA2 HRA3
  go_wp2
  clear r0 r1
  refine ParE.wp_region_e (l := [_, _, _, _, _, _, _, _, _, _, _, _, _, _, _, _, _, _, _, _, _, _, _, _, _, _, _]) rfl (Rg.Ch [25, 26] [10] (RdQ2 42 10 w3 ⟨gen, l, pa, de, se⟩)) (ParC.VC [ParC.EQ (Value.slice (some ⟨gn, 0, none⟩) 5 nc), ParC.EQ (Value.pointer (some ⟨gn, 0, none⟩)), ParC.EQ (uv gen), ParC.EQ (Value.slice (some ⟨gn, 0, none⟩) 5 nc), ParC.EQ (Value.pointer (some ⟨gn, 1, none⟩)), ParC.EQ (uv a1), ParC.EQ (Value.int IntKind.u64 ((mn99 a1 : Nat) : Int)), ParC.EQ (Value.int IntKind.i64 l), ParC.EQ (Value.slice (some ⟨gn, 0, none⟩) 5 nc), ParC.EQ (Value.pointer (some ⟨gn, 2, none⟩)), ParC.EQ (uv a2), ParC.EQ (Value.int IntKind.u64 ((mn99 a2 : Nat) : Int)), ParC.EQ (Value.int IntKind.i64 pa), ParC.EQ (Value.slice (some ⟨gn, 0, none⟩) 5 nc), ParC.EQ (Value.pointer (some ⟨gn, 3, none⟩)), ParC.EQ (uv a3), ParC.EQ (Value.int IntKind.u64 ((mn99 a3 : Nat) : Int)), ParC.EQ (Value.int IntKind.i64 de), ParC.EQ (Value.agg #[Value.int IntKind.i64 l, Value.int IntKind.i64 pa, Value.int IntKind.i64 de]), ParC.EQ (Value.slice (some ⟨gn, 0, none⟩) 5 nc), ParC.EQ (Value.pointer (some ⟨gn, 4, none⟩)), ParC.EQ (uv a4), ParC.EQ (Value.int IntKind.u64 ((mn99 a4 : Nat) : Int)), ParC.EQ (Value.int IntKind.i64 se), ParC.EQ (Value.agg #[uv gen, Value.int IntKind.i64 l, Value.int IntKind.i64 pa, Value.int IntKind.i64 de, Value.int IntKind.i64 se]), (fun _ => True), fun _ => True]) (by kernel_rfl) (by kernel_rfl) (Rg.Ch.start ⟨Ext.draw _, trivial⟩) ?_ ?_
  · refine ⟨fun L ρ w' hR hC hL hd hk => ?_, ?_⟩
    · exact Par.val_of_run rfl ⟨hR.other (by decide), hk.1⟩
    refine ⟨fun L ρ w' hR hC hL hd hk => ?_, ?_⟩
    · obtain ⟨k0, k1, -⟩ := hk
      have e0 : ρ (.tmp 45) = Value.slice (some ⟨gn, 0, none⟩) 5 nc := k0
      have e1 : ρ (Operand.const (Value.int IntKind.i64 0)) = (Value.int IntKind.i64 0) := k1
      clear k0 k1
      refine Par.val_k fun K hK => ?_
      unfold Par.val
      (go_simp; exact hK _ _ ⟨hR.other (by decide), rfl⟩)
    refine ⟨fun L ρ w' hR hC hL hd hk => ?_, ?_⟩
    · obtain ⟨k0, -⟩ := hk
      have e0 : ρ (.tmp 46) = Value.pointer (some ⟨gn, 0, none⟩) := k0
      clear k0
      refine Par.val_k fun K hK => ?_
      unfold Par.val
      (obtain ⟨i, hi, hq⟩ := hR.some 1 rfl (hC.notyet 26 2 hL (by kernel_rfl)); have cc := hq.1.cell (HN.out 0 (by omega)); go_simp; exact hK _ _ ⟨hR.other (by decide), rfl⟩)
    refine ⟨fun L ρ w' hR hC hL hd hk => ?_, ?_⟩
    · exact Par.val_of_run rfl ⟨hR.other (by decide), hk.1⟩
    refine ⟨fun L ρ w' hR hC hL hd hk => ?_, ?_⟩
    · obtain ⟨k0, k1, -⟩ := hk
      have e0 : ρ (.tmp 48) = Value.slice (some ⟨gn, 0, none⟩) 5 nc := k0
      have e1 : ρ (Operand.const (Value.int IntKind.i64 1)) = (Value.int IntKind.i64 1) := k1
      clear k0 k1
      refine Par.val_k fun K hK => ?_
      unfold Par.val
      (go_simp; exact hK _ _ ⟨hR.other (by decide), rfl⟩)
    refine ⟨fun L ρ w' hR hC hL hd hk => ?_, ?_⟩
    · obtain ⟨k0, -⟩ := hk
      have e0 : ρ (.tmp 49) = Value.pointer (some ⟨gn, 1, none⟩) := k0
      clear k0
      refine Par.val_k fun K hK => ?_
      unfold Par.val
      (obtain ⟨i, hi, hq⟩ := hR.some 1 rfl (hC.notyet 26 5 hL (by kernel_rfl)); have cc := hq.1.cell (HN.out 1 (by omega)); go_simp; exact hK _ _ ⟨hR.other (by decide), rfl⟩)
    refine ⟨fun L ρ w' hR hC hL hd hk => ?_, ?_⟩
    · obtain ⟨k0, k1, -⟩ := hk
      have e0 : ρ (.tmp 50) = uv a1 := k0
      have e1 : ρ (Operand.const (Value.int IntKind.u64 99999)) = (Value.int IntKind.u64 99999) := k1
      clear k0 k1
      refine Par.val_k fun K hK => ?_
      unfold Par.val
      (go_simp; exact hK _ _ ⟨hR.other (by decide), by first | rfl | exact min_u64 _⟩)
    refine ⟨fun L ρ w' hR hC hL hd hk => ?_, ?_⟩
    · obtain ⟨k0, -⟩ := hk
      have e0 : ρ (.tmp 51) = Value.int IntKind.u64 ((mn99 a1 : Nat) : Int) := k0
      clear k0
      refine Par.val_k fun K hK => ?_
      unfold Par.val
      (have hwr := HW.out.1; go_simp; exact hK _ _ ⟨hR.other (by decide), by first | rfl | exact congrArg (Value.int .i64) hwr⟩)
    refine ⟨fun L ρ w' hR hC hL hd hk => ?_, ?_⟩
    · exact Par.val_of_run rfl ⟨hR.other (by decide), hk.1⟩
    refine ⟨fun L ρ w' hR hC hL hd hk => ?_, ?_⟩
    · obtain ⟨k0, k1, -⟩ := hk
      have e0 : ρ (.tmp 53) = Value.slice (some ⟨gn, 0, none⟩) 5 nc := k0
      have e1 : ρ (Operand.const (Value.int IntKind.i64 2)) = (Value.int IntKind.i64 2) := k1
      clear k0 k1
      refine Par.val_k fun K hK => ?_
      unfold Par.val
      (go_simp; exact hK _ _ ⟨hR.other (by decide), rfl⟩)
    refine ⟨fun L ρ w' hR hC hL hd hk => ?_, ?_⟩
    · obtain ⟨k0, -⟩ := hk
      have e0 : ρ (.tmp 54) = Value.pointer (some ⟨gn, 2, none⟩) := k0
      clear k0
      refine Par.val_k fun K hK => ?_
      unfold Par.val
      (obtain ⟨i, hi, hq⟩ := hR.some 1 rfl (hC.notyet 26 10 hL (by kernel_rfl)); have cc := hq.1.cell (HN.out 2 (by omega)); go_simp; exact hK _ _ ⟨hR.other (by decide), rfl⟩)
    refine ⟨fun L ρ w' hR hC hL hd hk => ?_, ?_⟩
    · obtain ⟨k0, k1, -⟩ := hk
      have e0 : ρ (.tmp 55) = uv a2 := k0
      have e1 : ρ (Operand.const (Value.int IntKind.u64 99999)) = (Value.int IntKind.u64 99999) := k1
      clear k0 k1
      refine Par.val_k fun K hK => ?_
      unfold Par.val
      (go_simp; exact hK _ _ ⟨hR.other (by decide), by first | rfl | exact min_u64 _⟩)
    refine ⟨fun L ρ w' hR hC hL hd hk => ?_, ?_⟩
    · obtain ⟨k0, -⟩ := hk
      have e0 : ρ (.tmp 56) = Value.int IntKind.u64 ((mn99 a2 : Nat) : Int) := k0
      clear k0
      refine Par.val_k fun K hK => ?_
      unfold Par.val
      (have hwr := HW.out.2.1; go_simp; exact hK _ _ ⟨hR.other (by decide), by first | rfl | exact congrArg (Value.int .i64) hwr⟩)
    refine ⟨fun L ρ w' hR hC hL hd hk => ?_, ?_⟩
    · exact Par.val_of_run rfl ⟨hR.other (by decide), hk.1⟩
    refine ⟨fun L ρ w' hR hC hL hd hk => ?_, ?_⟩
    · obtain ⟨k0, k1, -⟩ := hk
      have e0 : ρ (.tmp 58) = Value.slice (some ⟨gn, 0, none⟩) 5 nc := k0
      have e1 : ρ (Operand.const (Value.int IntKind.i64 3)) = (Value.int IntKind.i64 3) := k1
      clear k0 k1
      refine Par.val_k fun K hK => ?_
      unfold Par.val
      (go_simp; exact hK _ _ ⟨hR.other (by decide), rfl⟩)
    refine ⟨fun L ρ w' hR hC hL hd hk => ?_, ?_⟩
    · obtain ⟨k0, -⟩ := hk
      have e0 : ρ (.tmp 59) = Value.pointer (some ⟨gn, 3, none⟩) := k0
      clear k0
      refine Par.val_k fun K hK => ?_
      unfold Par.val
      (obtain ⟨i, hi, hq⟩ := hR.some 1 rfl (hC.notyet 26 15 hL (by kernel_rfl)); have cc := hq.1.cell (HN.out 3 (by omega)); go_simp; exact hK _ _ ⟨hR.other (by decide), rfl⟩)
    refine ⟨fun L ρ w' hR hC hL hd hk => ?_, ?_⟩
    · obtain ⟨k0, k1, -⟩ := hk
      have e0 : ρ (.tmp 60) = uv a3 := k0
      have e1 : ρ (Operand.const (Value.int IntKind.u64 99999)) = (Value.int IntKind.u64 99999) := k1
      clear k0 k1
      refine Par.val_k fun K hK => ?_
      unfold Par.val
      (go_simp; exact hK _ _ ⟨hR.other (by decide), by first | rfl | exact min_u64 _⟩)
    refine ⟨fun L ρ w' hR hC hL hd hk => ?_, ?_⟩
    · obtain ⟨k0, -⟩ := hk
      have e0 : ρ (.tmp 61) = Value.int IntKind.u64 ((mn99 a3 : Nat) : Int) := k0
      clear k0
      refine Par.val_k fun K hK => ?_
      unfold Par.val
      (have hwr := HW.out.2.2.1; go_simp; exact hK _ _ ⟨hR.other (by decide), by first | rfl | exact congrArg (Value.int .i64) hwr⟩)
    refine ⟨fun L ρ w' hR hC hL hd hk => ?_, ?_⟩
    · obtain ⟨k0, k1, k2, -⟩ := hk
      have e0 : ρ (.tmp 52) = Value.int IntKind.i64 l := k0
      have e1 : ρ (.tmp 57) = Value.int IntKind.i64 pa := k1
      have e2 : ρ (.tmp 62) = Value.int IntKind.i64 de := k2
      clear k0 k1 k2
      refine Par.val_k fun K hK => ?_
      unfold Par.val
      (go_simp; exact hK _ _ ⟨hR.other (by decide), rfl⟩)
    refine ⟨fun L ρ w' hR hC hL hd hk => ?_, ?_⟩
    · exact Par.val_of_run rfl ⟨hR.other (by decide), hk.1⟩
    refine ⟨fun L ρ w' hR hC hL hd hk => ?_, ?_⟩
    · obtain ⟨k0, k1, -⟩ := hk
      have e0 : ρ (.tmp 64) = Value.slice (some ⟨gn, 0, none⟩) 5 nc := k0
      have e1 : ρ (Operand.const (Value.int IntKind.i64 4)) = (Value.int IntKind.i64 4) := k1
      clear k0 k1
      refine Par.val_k fun K hK => ?_
      unfold Par.val
      (go_simp; exact hK _ _ ⟨hR.other (by decide), rfl⟩)
    refine ⟨fun L ρ w' hR hC hL hd hk => ?_, ?_⟩
    · obtain ⟨k0, -⟩ := hk
      have e0 : ρ (.tmp 65) = Value.pointer (some ⟨gn, 4, none⟩) := k0
      clear k0
      refine Par.val_k fun K hK => ?_
      unfold Par.val
      (obtain ⟨i, hi, hq⟩ := hR.some 1 rfl (hC.notyet 26 21 hL (by kernel_rfl)); have cc := hq.1.cell (HN.out 4 (by omega)); go_simp; exact hK _ _ ⟨hR.other (by decide), rfl⟩)
    refine ⟨fun L ρ w' hR hC hL hd hk => ?_, ?_⟩
    · obtain ⟨k0, k1, -⟩ := hk
      have e0 : ρ (.tmp 66) = uv a4 := k0
      have e1 : ρ (Operand.const (Value.int IntKind.u64 99999)) = (Value.int IntKind.u64 99999) := k1
      clear k0 k1
      refine Par.val_k fun K hK => ?_
      unfold Par.val
      (go_simp; exact hK _ _ ⟨hR.other (by decide), by first | rfl | exact min_u64 _⟩)
    refine ⟨fun L ρ w' hR hC hL hd hk => ?_, ?_⟩
    · obtain ⟨k0, -⟩ := hk
      have e0 : ρ (.tmp 67) = Value.int IntKind.u64 ((mn99 a4 : Nat) : Int) := k0
      clear k0
      refine Par.val_k fun K hK => ?_
      unfold Par.val
      (have hwr := HW.out.2.2.2; go_simp; exact hK _ _ ⟨hR.other (by decide), by first | rfl | exact congrArg (Value.int .i64) hwr⟩)
    refine ⟨fun L ρ w' hR hC hL hd hk => ?_, ?_⟩
    · obtain ⟨k0, k1, k2, -⟩ := hk
      have e0 : ρ (.tmp 47) = uv gen := k0
      have e1 : ρ (.tmp 63) = Value.agg #[Value.int IntKind.i64 l, Value.int IntKind.i64 pa, Value.int IntKind.i64 de] := k1
      have e2 : ρ (.tmp 68) = Value.int IntKind.i64 se := k2
      clear k0 k1 k2
      refine Par.val_k fun K hK => ?_
      unfold Par.val
      (go_simp; exact hK _ _ ⟨hR.other (by decide), rfl⟩)
    refine ⟨fun L ρ w' hR hC hL hd hk => ?_, ?_⟩
    · obtain ⟨-⟩ := hk
      skip
      refine Par.val_k fun K hK => ?_
      unfold Par.val
      (obtain ⟨hq, hs⟩ := hR.go 0 rfl hL (.inl rfl) (by decide); have hx := hq.1; go_simp; exact hK _ _ ⟨hs _ _ _ ⟨hx.trans (Ext.alloc _ _), w'.heap.size, rfl, heap_alloc_new _ _, hx.size⟩, trivial⟩)
    refine ⟨fun L ρ w' hR hC hL hd hk => ?_, ?_⟩
    · obtain ⟨k0, k1, -⟩ := hk
      have e0 : (fun _ => True) (ρ (.tmp 10))  := k0
      have e1 : ρ (.tmp 69) = Value.agg #[uv gen, Value.int IntKind.i64 l, Value.int IntKind.i64 pa, Value.int IntKind.i64 de, Value.int IntKind.i64 se] := k1
      clear k0 k1
      refine Par.val_k fun K hK => ?_
      unfold Par.val
      (obtain ⟨hq, hs⟩ := hR.go 1 rfl hL (.inr ⟨25, rfl, hC.before 25 (i := 26) rfl hd (by kernel_rfl)⟩) (by decide); obtain ⟨g9, hg9, hgb, hgs⟩ := hq.2; have e9 : ρ (.tmp 10) = pv g9 := hg9; obtain ⟨k0, k1, k2, k3, k4, kf⟩ := blk5 hgb; have hset := set5 hgb (uv gen) (.int .i64 l) (.int .i64 pa) (.int .i64 de) (.int .i64 se); have hext := ext5 (uv gen) (.int .i64 l) (.int .i64 pa) (.int .i64 de) (.int .i64 se) hq.1 hgs; have HSET := hid hset; have HEXT := hid hext; clear hset hext hgb; go_simp; exact hK _ _ ⟨hs none _ _ ⟨HEXT.out, g9, hg9, HSET.out, hgs⟩, trivial⟩)
    trivial
  intro a' w' inv hR
  have q45 : a'.tmps.getD 45 undef = Value.slice (some ⟨gn, 0, none⟩) 5 nc := inv.done 0 _ 45 rfl rfl rfl
  have q46 : a'.tmps.getD 46 undef = Value.pointer (some ⟨gn, 0, none⟩) := inv.done 1 _ 46 rfl rfl rfl
  have q47 : a'.tmps.getD 47 undef = uv gen := inv.done 2 _ 47 rfl rfl rfl
  have q48 : a'.tmps.getD 48 undef = Value.slice (some ⟨gn, 0, none⟩) 5 nc := inv.done 3 _ 48 rfl rfl rfl
  have q49 : a'.tmps.getD 49 undef = Value.pointer (some ⟨gn, 1, none⟩) := inv.done 4 _ 49 rfl rfl rfl
  have q50 : a'.tmps.getD 50 undef = uv a1 := inv.done 5 _ 50 rfl rfl rfl
  have q51 : a'.tmps.getD 51 undef = Value.int IntKind.u64 ((mn99 a1 : Nat) : Int) := inv.done 6 _ 51 rfl rfl rfl
  have q52 : a'.tmps.getD 52 undef = Value.int IntKind.i64 l := inv.done 7 _ 52 rfl rfl rfl
  have q53 : a'.tmps.getD 53 undef = Value.slice (some ⟨gn, 0, none⟩) 5 nc := inv.done 8 _ 53 rfl rfl rfl
  have q54 : a'.tmps.getD 54 undef = Value.pointer (some ⟨gn, 2, none⟩) := inv.done 9 _ 54 rfl rfl rfl
  have q55 : a'.tmps.getD 55 undef = uv a2 := inv.done 10 _ 55 rfl rfl rfl
  have q56 : a'.tmps.getD 56 undef = Value.int IntKind.u64 ((mn99 a2 : Nat) : Int) := inv.done 11 _ 56 rfl rfl rfl
  have q57 : a'.tmps.getD 57 undef = Value.int IntKind.i64 pa := inv.done 12 _ 57 rfl rfl rfl
  have q58 : a'.tmps.getD 58 undef = Value.slice (some ⟨gn, 0, none⟩) 5 nc := inv.done 13 _ 58 rfl rfl rfl
  have q59 : a'.tmps.getD 59 undef = Value.pointer (some ⟨gn, 3, none⟩) := inv.done 14 _ 59 rfl rfl rfl
  have q60 : a'.tmps.getD 60 undef = uv a3 := inv.done 15 _ 60 rfl rfl rfl
  have q61 : a'.tmps.getD 61 undef = Value.int IntKind.u64 ((mn99 a3 : Nat) : Int) := inv.done 16 _ 61 rfl rfl rfl
  have q62 : a'.tmps.getD 62 undef = Value.int IntKind.i64 de := inv.done 17 _ 62 rfl rfl rfl
  have q63 : a'.tmps.getD 63 undef = Value.agg #[Value.int IntKind.i64 l, Value.int IntKind.i64 pa, Value.int IntKind.i64 de] := inv.done 18 _ 63 rfl rfl rfl
  have q64 : a'.tmps.getD 64 undef = Value.slice (some ⟨gn, 0, none⟩) 5 nc := inv.done 19 _ 64 rfl rfl rfl
  have q65 : a'.tmps.getD 65 undef = Value.pointer (some ⟨gn, 4, none⟩) := inv.done 20 _ 65 rfl rfl rfl
  have q66 : a'.tmps.getD 66 undef = uv a4 := inv.done 21 _ 66 rfl rfl rfl
  have q67 : a'.tmps.getD 67 undef = Value.int IntKind.u64 ((mn99 a4 : Nat) : Int) := inv.done 22 _ 67 rfl rfl rfl
  have q68 : a'.tmps.getD 68 undef = Value.int IntKind.i64 se := inv.done 23 _ 68 rfl rfl rfl
  have q69 : a'.tmps.getD 69 undef = Value.agg #[uv gen, Value.int IntKind.i64 l, Value.int IntKind.i64 pa, Value.int IntKind.i64 de, Value.int IntKind.i64 se] := inv.done 24 _ 69 rfl rfl rfl
  have q10 : (fun _ => True) (a'.tmps.getD 10 undef)  := inv.done 25 _ 10 rfl rfl rfl
  clear inv
  simp only [List.filterMap_cons, List.filterMap_nil, Par.putAll, Act.put, List.setIfInBounds_toArray, List.set_cons_succ, List.set_cons_zero, q45, q46, q47, q48, q49, q50, q51, q52, q53, q54, q55, q56, q57, q58, q59, q60, q61, q62, q63, q64, q65, q66, q67, q68, q69]
  clear q45 q46 q47 q48 q49 q50 q51 q52 q53 q54 q55 q56 q57 q58 q59 q60 q61 q62 q63 q64 q65 q66 q67 q68 q69
  obtain ⟨hx, g9, hg9, hgb, hgs⟩ := Rg.Ch.fin hR (by decide) 2 rfl; have HX9 := hid hx; have HG9 := hid hgb; have hg99 : a'.tmps.getD 10 undef = pv g9 := hg9; rw [hg99]; clear hx hgb hg9 hR
  generalize a'.tmps.getD 10 undef = u10 at *
  try clear a'
  have hg := HG9.out
  obtain ⟨k0, k1, k2, k3, k4, kf⟩ := blk5 hg
  clear hg
  go_wp2_with fail
  obtain ⟨RB, hRB⟩ : ∃ q, rtB ⟨gen, l, pa, de, se⟩ = q := ⟨_, rfl⟩
  have hc := rrt_any ⟨gen, l, pa, de, se⟩ w'
  rw [hRB] at hc
  have HRB := hid hRB
  refine hc.mono ?_
  clear hc hRB
  rintro e w6 ⟨rfl, hx⟩
  have HG6 := hid (hx.obj HG9.out)
  have HB6 := hid (hx.obj (HX9.out.obj HB3.out))
  have HE6 := hid (HE3.out.trans (HX9.out.trans hx))
  clear hx k0 k1 k2 k3 k4 kf
  cases RB
  case false =>
    have HAV : Hid (A = (rt0, 2)) := hid (by rw [HRA4.out]; unfold tellR; rw [HRB.out]; rfl)
    obtain ⟨k0, k1, k2, k3, k4, kf⟩ := blk5 HB6.out
    go_wp2
    refine bodyPost_ret (rrread_results _ _ _ _ _ _ _ _ rfl (set5 HB6.out _ _ _ _ _)) rfl ?_
    rw [HAV.out]
    exact ⟨rfl, ext5 _ _ _ _ _ HE6.out (Nat.le_refl _)⟩
  have HAV : Hid (A = (⟨gen, l, pa, de, se⟩, 0)) := hid (by rw [HRA4.out]; unfold tellR; rw [HRB.out]; rfl)
  obtain ⟨j0, j1, j2, j3, j4, jf⟩ := blk5 HG6.out
  obtain ⟨k0, k1, k2, k3, k4, kf⟩ := blk5 HB6.out
  go_wp2_with (first | (refine wpList_load_row rfl 42 (.tmp 10) rfl g9 rfl 42 #[uv gen, .int .i64 l, .int .i64 pa, .int .i64 de, .int .i64 se] (0, 0) _ HG6.out Tryz.underlying42 rfl (by kernel_rfl) ?_) | (refine wpList_store_row rfl 42 (.tmp 2) (.tmp 74) rfl w.heap.size #[uv gen, .int .i64 l, .int .i64 pa, .int .i64 de, .int .i64 se] rfl rfl 42 _ HB6.out (by kernel_rfl) rfl (by simp [Value.oneCell']) ?_) | (refine bodyPost_ret (rrread_results _ _ _ _ _ _ _ _ rfl (setRow_heap _ _ _ _ _ _ HB6.out)) rfl ?_; rw [HAV.out]; exact ⟨rfl, HE6.out.below ((setRow_fr16 _ _ _).below (by simp) HE6.out.size)⟩))
end Go.Proofs.YtijpokajhjhllaaGreatDoor

