/- bytes.Join of rows of bytes.
Events: mathematics.
Rows of acts, rows of bytes.
Package events: each.
The shelf's contracts of library functions, laid at this program by the kit's lay-shelf and lay-plain, trimmed. -/
import Derived.Test.YtinancnlangkjaaGreatDoorSegMM
import Derived.Test.YtinancnlangkjaaGreatDoorOpMA
import Derived.Test.YtinancnlangkjaaGreatDoorRecGC
import Derived.Test.YtinancnlangkjaaGreatDoorOpMB
import Derived.Test.YtinancnlangkjaaGreatDoorOpMC
import Derived.Test.YtinancnlangkjaaGreatDoorRecGB
import Derived.Shelf.Bytes.SlJoin
import Derived.Test.YtinancnlangkjaaGreatDoorProg
set_option linter.unusedSimpArgs false
set_option linter.unusedVariables false
set_option maxRecDepth 100000
namespace Go.Proofs.YtinancnlangkjaaGreatDoor
open Go Go.RowKit Go.Tum Go.ChangeMaps Go.Tum.Crc Go.Tum.Opm Go.Nam

abbrev evN (n : Nat) : Nm := nameL 101 n
theorem evN_len {n : Nat} (h : n < 10000000000) : (evN n).length ≤ 12 ∧ 3 ≤ (evN n).length := by
  have := segN_len h
  have e : (evN n).length = (segN n).length := rfl
  omega
theorem evN_ok {n : Nat} (h : n < 10000000000) : nmOk (evN n) = true := by
  have hl := evN_len h
  unfold nmOk
  simp only [Bool.and_eq_true, decide_eq_true_eq, List.all_eq_true]
  refine ⟨⟨by omega, hl.1⟩, fun c hc => ?_⟩
  have hc' : c ∈ (101 : UInt8) :: 46 :: dec n := hc
  rcases List.mem_cons.1 hc' with rfl | hc'
  · decide
  rcases List.mem_cons.1 hc' with rfl | hc'
  · decide
  · have := digits_ok n c hc'
    omega
theorem evN_ne (n : Nat) : evN n ≠ [] := fun h => by
  have : (101 :: 46 :: dec n : List UInt8) = [] := h
  cases this
theorem evN_max {n : Nat} (h : n < 10000000000) : (evN n).length ≤ maxLen := by
  have := (evN_len h).1
  simp [maxLen]; omega
theorem dec1 {k : Nat} (h : k < 10) : dec k = [UInt8.ofNat (48 + k)] := by
  show Lib.decDigits k = _
  rw [Lib.decDigits, dif_pos h]
theorem evN1 : evN 1 = [101, 46, 49] := by show 101 :: 46 :: dec 1 = _; rw [dec1 (by decide)]; rfl
theorem evN2 : evN 2 = [101, 46, 50] := by show 101 :: 46 :: dec 2 = _; rw [dec1 (by decide)]; rfl

/-! ### Acts as bytes -/
abbrev opB (o : Oq) : List UInt8 := recB (opRec o)
def opsB : List Oq → List UInt8
  | [] => []
  | o :: r => opB o ++ opsB r
theorem opsB_append : ∀ (a b : List Oq), opsB (a ++ b) = opsB a ++ opsB b
  | [], b => rfl
  | o :: r, b => by rw [List.cons_append, opsB, opsB, opsB_append r b, List.append_assoc]
theorem opsB_snoc (a : List Oq) (o : Oq) : opsB (a ++ [o]) = opsB a ++ opB o := by rw [opsB_append, opsB, opsB, List.append_nil]
def opsE : Nat → List Oq → List Nat
  | _, [] => []
  | k, o :: r => (k + (opB o).length) :: opsE (k + (opB o).length) r
theorem opsE_len : ∀ (l : List Oq) (k : Nat), (opsE k l).length = l.length
  | [], _ => rfl
  | o :: r, k => by simp only [opsE, List.length_cons, opsE_len r]
theorem opsE_at : ∀ (l : List Oq) (k i : Nat) (h : i < (opsE k l).length), (opsE k l)[i] = k + (opsB (l.take (i + 1))).length
  | [], k, i, h => absurd h (by simp [opsE])
  | o :: r, k, 0, h => by simp [opsE, opsB]
  | o :: r, k, i + 1, h => by
    simp only [opsE, List.getElem_cons_succ, List.take_succ_cons, opsB, List.length_append]
    rw [opsE_at r _ i (by simpa [opsE] using h)]
    omega
abbrev allR (l : List Oq) : Bool := l.all opRight
theorem opB_len {o : Oq} (h : opRight o = true) : 11 ≤ (opB o).length ∧ (opB o).length ≤ 411 := recB_len (rec_back h).1
theorem opsB_len : ∀ {l : List Oq}, allR l = true → (opsB l).length ≤ 411 * l.length
  | [], _ => by simp [opsB]
  | o :: r, h => by
    simp only [allR, List.all_cons, Bool.and_eq_true] at h
    have h1 := (opB_len h.1).2
    have h2 := opsB_len (l := r) h.2
    simp only [opsB, List.length_append, List.length_cons]
    omega
theorem allR_append (a b : List Oq) : allR (a ++ b) = (allR a && allR b) := by simp [allR]
theorem allR_take {l : List Oq} (h : allR l = true) (n : Nat) : allR (l.take n) = true := by
  simp only [allR, List.all_eq_true] at *
  exact fun o ho => h o (List.mem_of_mem_take ho)
theorem rall_ops : ∀ {l : List Oq}, allR l = true → ∀ (m : List UInt8) (k : Nat), rall k (opsB l ++ m) = (l.map opRec ++ (rall (k + (opsB l).length) m).1, opsE k l ++ (rall (k + (opsB l).length) m).2.1, (rall (k + (opsB l).length) m).2.2)
  | [], _, m, k => by simp [opsB, opsE]
  | o :: r, h, m, k => by
    simp only [allR, List.all_cons, Bool.and_eq_true] at h
    have ih := rall_ops (l := r) h.2 m (k + (opB o).length)
    rw [opsB, List.append_assoc, rall_rec (rec_back h.1).1, ih]
    simp only [List.map_cons, opsE, List.cons_append, List.length_append, Nat.add_assoc]
/-- The acts of records, or the first error. -/
def opsOf : List Rc → List Oq × Int
  | [] => ([], 0)
  | r :: t => if (opOf r).2 ≠ 0 then ([], 2) else if (opsOf t).2 ≠ 0 then ([], 2) else ((opOf r).1 :: (opsOf t).1, 0)
theorem opsOf_map : ∀ {l : List Oq}, allR l = true → opsOf (l.map opRec) = (l, 0)
  | [], _ => rfl
  | o :: r, h => by
    simp only [allR, List.all_cons, Bool.and_eq_true] at h
    have ih := opsOf_map (l := r) h.2
    simp only [List.map_cons, opsOf, opOf_back h.1, ih]
    simp
theorem opsOf_snoc (l : List Rc) (r : Rc) (h : (opsOf l).2 = 0) : opsOf (l ++ [r]) = if (opOf r).2 ≠ 0 then ([], 2) else ((opsOf l).1 ++ [(opOf r).1], 0) := by
  induction l with
  | nil =>
    simp only [List.nil_append, opsOf]
    by_cases h1 : (opOf r).2 = 0 <;> simp [h1]
  | cons a t ih =>
    simp only [opsOf] at h
    by_cases h1 : (opOf a).2 = 0
    · by_cases h2 : (opsOf t).2 = 0
      · have := ih h2
        simp only [List.cons_append, opsOf, this, h1, h2]
        by_cases h3 : (opOf r).2 = 0 <;> simp [h3]
      · simp [h1, h2] at h
    · simp [h1] at h
theorem opsOf_bad : ∀ {l : List Rc} {r : Rc}, r ∈ l → (opOf r).2 ≠ 0 → opsOf l = ([], 2)
  | a :: t, r, hm, hr => by
    simp only [opsOf]
    rcases List.mem_cons.1 hm with rfl | hm
    · rw [if_pos hr]
    · have := opsOf_bad hm hr
      rw [this]
      split
      · rfl
      · rfl
def loadB (b : List UInt8) : List Oq × List Nat × Int :=
  if (opsOf (rall 0 b).1).2 ≠ 0 then ([], [], 2) else if (rall 0 b).2.2 ≠ 0 ∧ (rall 0 b).2.2 ≠ 3 then ([], [], (rall 0 b).2.2) else ((opsOf (rall 0 b).1).1, (rall 0 b).2.1, 0)
theorem load_of {b : List UInt8} {l : List Oq} {e : Int} {es : List Nat} (h : rall 0 b = (l.map opRec, es, e)) (hl : allR l = true) :
    loadB b = if e ≠ 0 ∧ e ≠ 3 then ([], [], e) else (l, es, 0) := by
  unfold loadB
  rw [h]
  simp only [opsOf_map hl]
  simp
theorem load_ops {l : List Oq} (h : allR l = true) : loadB (opsB l) = (l, opsE 0 l, 0) := by
  have := rall_ops h [] 0
  rw [List.append_nil, rall_nil] at this
  simp only [List.append_nil] at this
  rw [load_of this h]
  simp
theorem fread_part (x : Go.Tum.Crc.Fr) (hx : x.body.length ≤ 400) (k : Nat) (hk : k < (fbytes x).length) : fread ((fbytes x).take k) = (f0, 0, 3) := by
  have hlen := fbytes_length x
  unfold fread
  by_cases h7 : k < 7
  · rw [if_pos (by simp; omega)]
  have e1 : (fbytes x).take 7 = put (hd x) := by simpa using fbytes_head x []
  have hA : ((fbytes x).take k).take 7 = put (hd x) := by rw [List.take_take, Nat.min_eq_left (by omega), e1]
  have hf := flen_of hA hx
  rw [if_neg (by simp; omega), hA, if_neg (by simp [isPut_put]), hf, if_neg (by omega), if_pos (by simp; omega)]
/-- A beginning of acts' bytes. -/
theorem rall_part : ∀ {l : List Oq}, allR l = true → ∀ c, c ≤ (opsB l).length →
    ∃ n e, n ≤ l.length ∧ (e = 0 ∨ e = 3) ∧ (opsB (l.take n)).length ≤ c ∧ (∀ j, j ≤ l.length → (opsB (l.take j)).length ≤ c → j ≤ n) ∧ ∀ k, rall k ((opsB l).take c) = ((l.take n).map opRec, opsE k (l.take n), e)
  | [], _, c, hc => ⟨0, 0, Nat.le_refl _, .inl rfl, by simp [opsB], fun j hj _ => by simpa using hj, fun k => by simp [opsB, opsE, rall_nil]⟩
  | o :: r, h, c, hc => by
    simp only [allR, List.all_cons, Bool.and_eq_true] at h
    have hl := opB_len h.1
    rcases Nat.lt_or_ge c (opB o).length with hlt | hge
    · have e0 : (opsB (o :: r)).take c = (opB o).take c := by
        rw [opsB, List.take_append_of_le_length (by omega)]
      have hj : ∀ j, j ≤ (o :: r).length → (opsB ((o :: r).take j)).length ≤ c → j ≤ 0 := fun j _ h2 => by
        cases j with
        | zero => exact Nat.le_refl _
        | succ j =>
          simp only [List.take_succ_cons, opsB, List.length_append] at h2
          omega
      rcases Nat.eq_zero_or_pos c with rfl | hpos
      · refine ⟨0, 0, Nat.zero_le _, .inl rfl, by simp [opsB], hj, fun k => ?_⟩
        rw [e0]
        simp [opsE, rall_nil]
      · refine ⟨0, 3, Nat.zero_le _, .inr rfl, by simp [opsB], hj, fun k => ?_⟩
        have hf := fread_part (recFr (opRec o)) (body_le (rec_back h.1).1) c hlt
        have hne : (opB o).take c ≠ [] := fun e => by
          have := congrArg List.length e
          rw [List.length_take, List.length_nil] at this
          omega
        have hf' : fread ((opB o).take c) = (f0, 0, 3) := hf
        rw [e0, rall_bad hne (by rw [hf']; decide), hf']
        simp [opsE]
    · obtain ⟨n, e, h1, h2, h3, h4, h5⟩ := rall_part (l := r) h.2 (c - (opB o).length) (by simp only [opsB, List.length_append] at hc; omega)
      refine ⟨n + 1, e, by simp; omega, h2, ?_, fun j hj h6 => ?_, fun k => ?_⟩
      · simp only [List.take_succ_cons, opsB, List.length_append]; omega
      · cases j with
        | zero => omega
        | succ j =>
          simp only [List.take_succ_cons, opsB, List.length_append] at h6
          have := h4 j (by simpa using hj) (by omega)
          omega
      · have e0 : (opsB (o :: r)).take c = opB o ++ (opsB r).take (c - (opB o).length) := by
          rw [opsB, List.take_append, List.take_of_length_le hge]
        rw [e0, rall_rec (rec_back h.1).1, h5]
        simp only [List.take_succ_cons, List.map_cons, opsE]
/-- Acts' bytes that are turned tell none. -/
theorem rall_turnedOps : ∀ {l : List Oq}, allR l = true → ∀ (at_ : Int) (t : Nat), turnN at_ t (opsB l) 32 ≠ opsB l → ∃ n : Nat, ∀ k, ∃ es : List Nat, rall k (turnN at_ t (opsB l) 32) = ((l.take n).map opRec, es, 8)
  | [], _, at_, t, hne => by
    exfalso
    apply hne
    have := turnN_length at_ t (opsB []) 32
    exact List.length_eq_zero_iff.1 (by rw [this]; rfl)
  | o :: r, h, at_, t, hne => by
    simp only [allR, List.all_cons, Bool.and_eq_true] at h
    have hl := opB_len h.1
    have h1 := turnN_take at_ t (opsB (o :: r)) (opB o).length (by simp [opsB]) 32
    have h2 := turnN_drop at_ t (opsB (o :: r)) (opB o).length (by simp [opsB]) 32
    rw [opsB, List.take_left' rfl] at h1
    rw [opsB, List.drop_left' rfl] at h2
    have e0 : turnN at_ t (opB o ++ opsB r) 32 = turnN at_ t (opB o) 32 ++ turnN (at_ - 8 * ((opB o).length : Nat)) t (opsB r) 32 := by
      rw [← h1, ← h2, List.take_append_drop]
    rw [opsB] at hne ⊢
    rw [e0] at hne ⊢
    by_cases hh : turnN at_ t (opB o) 32 = opB o
    · rw [hh] at hne ⊢
      obtain ⟨n, h5⟩ := rall_turnedOps (l := r) h.2 (at_ - 8 * ((opB o).length : Nat)) t (fun e => hne (by rw [e]))
      refine ⟨n + 1, fun k => ?_⟩
      obtain ⟨es, h6⟩ := h5 (k + (opB o).length)
      refine ⟨(k + (opB o).length) :: es, ?_⟩
      rw [rall_rec (rec_back h.1).1, h6]
      rfl
    · refine ⟨0, fun k => ⟨[], ?_⟩⟩
      have hf := fread_turned (recFr (opRec o)) (body_le (rec_back h.1).1) at_ t (turnN (at_ - 8 * ((opB o).length : Nat)) t (opsB r) 32) hh
      have hf' : fread (turnN at_ t (opB o) 32 ++ turnN (at_ - 8 * ((opB o).length : Nat)) t (opsB r) 32) = (f0, 0, 8) := hf
      have hpl := turnN_length at_ t (opB o) 32
      have hn : turnN at_ t (opB o) 32 ++ turnN (at_ - 8 * ((opB o).length : Nat)) t (opsB r) 32 ≠ [] := fun e => by
        have := congrArg List.length e
        rw [List.length_append, List.length_nil] at this
        omega
      rw [rall_bad hn (by rw [hf']; decide), hf']
      rfl
theorem load_turned {l : List Oq} (h : allR l = true) (at_ : Int) (t : Nat) (hne : turnN at_ t (opsB l) 32 ≠ opsB l) : loadB (turnN at_ t (opsB l) 32) = ([], [], 8) := by
  obtain ⟨n, h5⟩ := rall_turnedOps h at_ t hne
  obtain ⟨es, h6⟩ := h5 0
  rw [load_of h6 (allR_take h n)]
  simp

/-! ### What is done with a disk -/
def evB (s : PS) (gen : UInt64) : Nat × PS := if 10000000000 ≤ gen.toNat then (1, s) else if (creP s (evN gen.toNat)).1 ≠ 0 then creP s (evN gen.toNat) else synP (creP s (evN gen.toNat)).2 (evN gen.toNat)
def evA (s : PS) (gen : UInt64) (l : List Oq) : Nat × PS := if 10000000000 ≤ gen.toNat then (1, s) else if allR l = true then appP s (evN gen.toNat) (opsB l) else (1, s)
def evS (s : PS) (gen : UInt64) : Nat × PS := if 10000000000 ≤ gen.toNat then (1, s) else synP s (evN gen.toNat)
def evR (s : PS) (gen : UInt64) : List UInt8 × Nat := if 10000000000 ≤ gen.toNat then ([], 1) else (rdB s (evN gen.toNat), rdE s (evN gen.toNat))
def evL (s : PS) (gen : UInt64) : List Oq × List Nat × Int := if (evR s gen).2 ≠ 0 then ([], [], ((evR s gen).2 : Nat)) else loadB (evR s gen).1
def evC (s : PS) (gen : UInt64) (k : Int) : Nat × PS := if (evR s gen).2 ≠ 0 then ((evR s gen).2, s) else if ((evR s gen).1.length : Int) ≤ k then (0, s) else cutP s (evN gen.toNat) k
theorem wf_evB {s : PS} (h : WF s) (gen : UInt64) : WF (evB s gen).2 := by
  unfold evB; (repeat' split)
  · exact h
  · exact h.cre _
  · exact (h.cre _).syn _
theorem wf_evA {s : PS} (h : WF s) (gen : UInt64) (l : List Oq) : WF (evA s gen l).2 := by
  unfold evA; (repeat' split)
  · exact h
  · exact h.app _ _
  · exact h
theorem wf_evS {s : PS} (h : WF s) (gen : UInt64) : WF (evS s gen).2 := by
  unfold evS; (repeat' split)
  · exact h
  · exact h.syn _
theorem wf_evC {s : PS} (h : WF s) (gen : UInt64) (k : Int) : WF (evC s gen k).2 := by
  unfold evC; (repeat' split)
  · exact h
  · exact h
  · exact h.cut _ _

/-! ### Disks as the laws fill them -/
/-- One file, nothing sure. -/
def eU (R : Nat) (n : Nm) (c : List UInt8) (m : Nat) : PS := ⟨R, [(c, m)], [], [⟨[], n, some 0⟩], -1, false⟩
/-- One file that is there. -/
def eV (R : Nat) (n : Nm) (c : List UInt8) (m : Nat) : PS := ⟨R, [(c, m)], [(n, 0)], [], -1, false⟩
theorem dir1 (n : Nm) : dirAt [] [⟨[], n, some 0⟩] = [(n, 0)] := by simp [dirAt, appC, inN, noN]
theorem eU_dir (R : Nat) (n : Nm) (c : List UInt8) (m : Nat) : (eU R n c m).dir = [(n, 0)] := dir1 n
theorem eV_dir (R : Nat) (n : Nm) (c : List UInt8) (m : Nat) : (eV R n c m).dir = [(n, 0)] := rfl
theorem look1 (n : Nm) : look [(n, 0)] n = some 0 := by simp [look]
theorem e_begin {R : Nat} {n : Nm} (ho : nmOk n = true) : creP (newP R) n = (0, eU R n [] 0) := by
  have he : creE (newP R) n = 0 := by
    unfold creE
    rw [ho, if_neg (by decide)]
    rfl
  unfold creP
  rw [doP_go rfl he rfl]
  rfl
theorem eU_syn (R : Nat) (n : Nm) (c : List UInt8) (m : Nat) : synP (eU R n c m) n = (0, eU R n c c.length) := by
  have he : missP (eU R n c m) n = 0 := by unfold missP; rw [eU_dir, look1]; rfl
  unfold synP
  rw [doP_go rfl he rfl]
  refine Prod.ext rfl ?_
  show ({ eU R n c m with fuse := -1, files := setF (eU R n c m).files (look (eU R n c m).dir n) fun x => (x.1, x.1.length) } : PS) = _
  rw [eU_dir, look1]
  rfl
theorem eV_syn (R : Nat) (n : Nm) (c : List UInt8) (m : Nat) : synP (eV R n c m) n = (0, eV R n c c.length) := by
  have he : missP (eV R n c m) n = 0 := by unfold missP; rw [eV_dir, look1]; rfl
  unfold synP
  rw [doP_go rfl he rfl]
  refine Prod.ext rfl ?_
  show ({ eV R n c m with fuse := -1, files := setF (eV R n c m).files (look (eV R n c m).dir n) fun x => (x.1, x.1.length) } : PS) = _
  rw [eV_dir, look1]
  rfl
theorem eU_dsy (R : Nat) (n : Nm) (c : List UInt8) (m : Nat) : dsyP (eU R n c m) = (0, eV R n c m) := by
  unfold dsyP
  rw [doP_go rfl rfl rfl]
  refine Prod.ext rfl ?_
  show ({ eU R n c m with fuse := -1, sure := (eU R n c m).dir, opn := [] } : PS) = _
  rw [eU_dir]
  rfl
theorem eU_app (R : Nat) (n : Nm) (c u : List UInt8) (m : Nat) (h : c.length + u.length ≤ R) : appP (eU R n c m) n u = (0, eU R n (c ++ u) m) := by
  have he : appE (eU R n c m) n u = 0 := by
    unfold appE
    rw [eU_dir, look1, if_neg (by simp), if_neg]
    show ¬ R < (c.length + 0) + u.length
    omega
  unfold appP
  rw [doP_go rfl he rfl]
  refine Prod.ext rfl ?_
  show ({ eU R n c m with fuse := -1, files := setF (eU R n c m).files (look (eU R n c m).dir n) fun x => (x.1 ++ u, x.2) } : PS) = _
  rw [eU_dir, look1]
  rfl
theorem eV_app (R : Nat) (n : Nm) (c u : List UInt8) (m : Nat) (h : c.length + u.length ≤ R) : appP (eV R n c m) n u = (0, eV R n (c ++ u) m) := by
  have he : appE (eV R n c m) n u = 0 := by
    unfold appE
    rw [eV_dir, look1, if_neg (by simp), if_neg]
    show ¬ R < (c.length + 0) + u.length
    omega
  unfold appP
  rw [doP_go rfl he rfl]
  refine Prod.ext rfl ?_
  show ({ eV R n c m with fuse := -1, files := setF (eV R n c m).files (look (eV R n c m).dir n) fun x => (x.1 ++ u, x.2) } : PS) = _
  rw [eV_dir, look1]
  rfl
theorem eU_cut (R : Nat) (n : Nm) (c : List UInt8) (m k : Nat) (h : k ≤ c.length) : cutP (eU R n c m) n (k : Int) = (0, eU R n (c.take k) (min m k)) := by
  have he : cutE (eU R n c m) n (k : Int) = 0 := by
    unfold cutE
    rw [eU_dir, look1]
    dsimp only
    rw [if_neg]
    show ¬ ((k : Int) < 0 ∨ ((c.length : Nat) : Int) < k)
    omega
  unfold cutP
  rw [doP_go rfl he rfl]
  refine Prod.ext rfl ?_
  show ({ eU R n c m with fuse := -1, files := setF (eU R n c m).files (look (eU R n c m).dir n) fun x => (x.1.take (k : Int).toNat, min x.2 (k : Int).toNat) } : PS) = _
  rw [eU_dir, look1]
  rfl
theorem eV_cut (R : Nat) (n : Nm) (c : List UInt8) (m k : Nat) (h : k ≤ c.length) : cutP (eV R n c m) n (k : Int) = (0, eV R n (c.take k) (min m k)) := by
  have he : cutE (eV R n c m) n (k : Int) = 0 := by
    unfold cutE
    rw [eV_dir, look1]
    dsimp only
    rw [if_neg]
    show ¬ ((k : Int) < 0 ∨ ((c.length : Nat) : Int) < k)
    omega
  unfold cutP
  rw [doP_go rfl he rfl]
  refine Prod.ext rfl ?_
  show ({ eV R n c m with fuse := -1, files := setF (eV R n c m).files (look (eV R n c m).dir n) fun x => (x.1.take (k : Int).toNat, min x.2 (k : Int).toNat) } : PS) = _
  rw [eV_dir, look1]
  rfl
theorem eU_rd (R : Nat) (n : Nm) (c : List UInt8) (m : Nat) : rdE (eU R n c m) n = 0 ∧ rdB (eU R n c m) n = c := by
  unfold rdE rdB
  rw [eU_dir, look1]
  exact ⟨rfl, rfl⟩
theorem eV_rd (R : Nat) (n : Nm) (c : List UInt8) (m : Nat) : rdE (eV R n c m) n = 0 ∧ rdB (eV R n c m) n = c := by
  unfold rdE rdB
  rw [eV_dir, look1]
  exact ⟨rfl, rfl⟩
theorem eV_crash (R : Nat) (n : Nm) (c : List UInt8) (m : Nat) (hm : m ≤ c.length) (ts : List Int) : ∃ k, m ≤ k ∧ k ≤ c.length ∧ crP (eV R n c m) 0 ts = eV R n (c.take k) k := by
  refine ⟨m + (min (max (ts.headD 0) 0) ((c.length : Int) - m)).toNat, by omega, by omega, ?_⟩
  rfl
/-- Two files, nothing sure. -/
def eW (R : Nat) (c d : List UInt8) : PS := ⟨R, [(c, 0), (d, 0)], [], [⟨[], [101, 46, 49], some 0⟩, ⟨[], [101, 46, 50], some 1⟩], -1, false⟩
theorem eW_cre (R : Nat) : creP (eU R [101, 46, 49] [] 0) [101, 46, 50] = (0, eW R [] []) := rfl
theorem eW_syn (R : Nat) : synP (eW R [] []) [101, 46, 50] = (0, eW R [] []) := rfl
theorem eW_app1 (R : Nat) (c d u : List UInt8) (h : c.length + d.length + u.length ≤ R) : appP (eW R c d) [101, 46, 49] u = (0, eW R (c ++ u) d) := by
  have he : appE (eW R c d) [101, 46, 49] u = 0 := by
    unfold appE
    have hn : ¬ look (eW R c d).dir [101, 46, 49] = none := fun h => absurd (show (some 0 : Option Nat) = none from h) (by decide)
    rw [if_neg hn, if_neg]
    show ¬ R < (c.length + (d.length + 0)) + u.length
    omega
  unfold appP
  rw [doP_go rfl he rfl]
  rfl
theorem eW_app2 (R : Nat) (c d u : List UInt8) (h : c.length + d.length + u.length ≤ R) : appP (eW R c d) [101, 46, 50] u = (0, eW R c (d ++ u)) := by
  have he : appE (eW R c d) [101, 46, 50] u = 0 := by
    unfold appE
    have hn : ¬ look (eW R c d).dir [101, 46, 50] = none := fun h => absurd (show (some 1 : Option Nat) = none from h) (by decide)
    rw [if_neg hn, if_neg]
    show ¬ R < (c.length + (d.length + 0)) + u.length
    omega
  unfold appP
  rw [doP_go rfl he rfl]
  rfl
theorem eW_rd1 (R : Nat) (c d : List UInt8) : rdE (eW R c d) [101, 46, 49] = 0 ∧ rdB (eW R c d) [101, 46, 49] = c := ⟨rfl, rfl⟩
theorem eW_rd2 (R : Nat) (c d : List UInt8) : rdE (eW R c d) [101, 46, 50] = 0 ∧ rdB (eW R c d) [101, 46, 50] = d := ⟨rfl, rfl⟩
end Go.Proofs.YtinancnlangkjaaGreatDoor

set_option linter.unusedSimpArgs false
set_option linter.unusedVariables false
set_option maxRecDepth 100000
namespace Go.Proofs.YtinancnlangkjaaGreatDoor
open Go Go.RowKit Go.Tum Go.ChangeMaps Go.Tum.Crc Go.Tum.Vint Go.Tum.Opm Go.Nam

abbrev Ops (w : World) (v : Value) (l : List Oq) : Prop := RowsOf w 8 v ocells l
/-- The call's own row of acts. -/
abbrev OpsO (w : World) (B T : Nat) (v : Value) (l : List Oq) : Prop := w.ownsRow B T 8 v l.length (l.flatMap ocells)
theorem OpsO.ops {w : World} {B T : Nat} {v : Value} {l : List Oq} (h : OpsO w B T v l) : Ops w v l := ⟨fun _ _ => rfl, Sl.of_owns h⟩
theorem OpsO.ext {w w' : World} {B T : Nat} {v : Value} {l : List Oq} (h : OpsO w B T v l) (k : Ext w w') : OpsO w' B T v l := Ext.owns k h
theorem OpsO.nil (w : World) (B T : Nat) : OpsO w B T (.slice none 0 0) [] := World.ownsRow_nil _ _ _ _
theorem OpsO.open {w : World} {B T : Nat} {v : Value} {l : List Oq} (h : OpsO w B T v l) : ∃ ao cap, v = .slice ao l.length cap := by
  rcases h.2 with ⟨e, e2⟩ | ⟨g, c, cur, e, _⟩
  · exact ⟨none, 0, by rw [e, e2]⟩
  · exact ⟨_, c, e⟩
theorem o_one (o : Oq) : ∀ y ∈ ocells o, y.oneCell' = true := by
  intro y hy
  simp at hy
  rcases hy with rfl | rfl | rfl | rfl | rfl | rfl | rfl | rfl <;> rfl
theorem blk_sl {w : World} {g n : Nat} {cs : List Value} {ty : TypeId} {fr : Nat × Nat} (h : w.heap[g]? = some (.cells cs.toArray ty fr)) (hn : cs.length = n) : Sl w n (.slice (some ⟨g, 0, none⟩) 1 1) 1 cs := by
  refine ⟨by omega, some ⟨g, 0, none⟩, 1, rfl, Nat.le_refl _, by simp [maxLen], (fun h => by cases h), fun a ha j u hu => ?_⟩
  cases ha
  have e1 : (⟨g, 0, none⟩ : Addr).add j = ⟨g, j, none⟩ := by unfold Addr.add; split <;> simp_all
  rw [e1, cell_of_row _ _ _ _ _ _ h]
  simpa using hu
section
variable {P : Program}
/-- 'append(s, x)': s the call's own row of acts, x an act in a block of its own. -/
theorem wpList_append_op {ops : Array Oper} {rest : List Oper} {o : Oper} {a : Act} {w : World} {Q : Exit → Act → World → Prop} (hgd : o.guard = none) (s x : Operand) (t : Nat)
    (ho : o.op = .call { callee := .builtin .append, args := #[s, x], argTypes := #[t, t] }) (base T : Nat) (ht : P.underlying t = some (.slice T))
    (hi : (P.info? T).map (fun i => (i.zero, i.size, i.bytes)) = some (some (.agg #[.int .i64 0, .int .i64 0, .int .u64 0, .int .u64 0, .string ⟨#[]⟩, .int .u64 0, .int .u64 0, .int .i64 0]), 8, 72))
    {v : Value} {l : List Oq} (hs : a.eval s = v) (hown : OpsO w base T v l) {g : Nat} {y : Oq} (hx : a.eval x = .slice (some ⟨g, 0, none⟩) 1 1)
    {ty : TypeId} {fr : Nat × Nat} (hblk : w.heap[g]? = some (.cells (ocells y).toArray ty fr))
    (N : Nat) (hN : N = l.length + 1) (hb : N * 72 ≤ 140737488355328) (hbase : base ≤ w.heap.size)
    (h : ∀ ao cap w', OpsO w' base T (.slice ao N cap) (l ++ [y]) → w.grownBy w' v.ownBlock → Below base w w' → wpList P ops Q rest (a.put o.dst (.slice ao N cap)) w') :
    wpList P ops Q (o :: rest) a w := by
  subst hN
  refine wpList_append_sl hgd s x t ho base T ht hi rfl (by decide) hs hown hx (blk_sl hblk rfl) (o_one y) (by simp [maxLen]; omega) (by omega) hbase fun ao cap w' k1 k2 k3 => ?_
  refine h ao cap w' ?_ k2 k3
  show w'.ownsRow base T 8 _ (l ++ [y]).length ((l ++ [y]).flatMap ocells)
  rw [List.length_append, List.length_singleton, List.flatMap_append]
  simpa using k1
end
theorem infoOp : (Tryz.prog.info? 68).map (fun i => (i.zero, i.size, i.bytes)) = some (some (.agg #[.int .i64 0, .int .i64 0, .int .u64 0, .int .u64 0, .string ⟨#[]⟩, .int .u64 0, .int .u64 0, .int .i64 0]), 8, 72) := by kernel_rfl
theorem infoROp : (Tryz.prog.info? 98).map (fun i => (i.zero, i.size, i.bytes)) = some (some (.agg #[.int .i64 0, .int .i64 0, .int .u64 0, .int .u64 0, .string ⟨#[]⟩, .int .u64 0, .int .u64 0, .int .i64 0]), 8, 72) := by kernel_rfl
theorem infoByt : (Tryz.prog.info? 35).map (fun i => (i.zero, i.size, i.bytes)) = some (some (.slice none 0 0), 1, 24) := by kernel_rfl
/-- The call's own row of bytes, each in blocks of its own. -/
def PtsO (w : World) (B T : Nat) (v : Value) (l : List (List UInt8)) : Prop := ∃ m : List (List UInt8 × Value), m.map (·.1) = l ∧ w.ownsRow B T 1 v m.length (m.map (·.2)) ∧ ∀ p ∈ m, Own w B 5 p.2 p.1
theorem PtsO.ext {w w' : World} {B T : Nat} {v : Value} {l : List (List UInt8)} (h : PtsO w B T v l) (k : Ext w w') : PtsO w' B T v l := by
  obtain ⟨m, h1, h2, h3⟩ := h
  exact ⟨m, h1, k.owns h2, fun p hp => (h3 p hp).ext k⟩
theorem PtsO.nil (w : World) (B T : Nat) : PtsO w B T (.slice none 0 0) [] := ⟨[], rfl, World.ownsRow_nil _ _ _ _, fun p hp => absurd hp (by simp)⟩
theorem PtsO.open {w : World} {B T : Nat} {v : Value} {l : List (List UInt8)} (h : PtsO w B T v l) : ∃ ao cap, v = .slice ao l.length cap := by
  obtain ⟨m, rfl, h2, _⟩ := h
  rcases h2.2 with ⟨e, e2⟩ | ⟨g, c, cur, e, _⟩
  · subst e; exact ⟨none, 0, by simp [e2]⟩
  · subst e; exact ⟨_, c, by simp; rfl⟩
section
variable {P : Program}
theorem wpList_append_pt {ops : Array Oper} {rest : List Oper} {o : Oper} {a : Act} {w : World} {Q : Exit → Act → World → Prop} (hgd : o.guard = none) (s x : Operand) (t : Nat)
    (ho : o.op = .call { callee := .builtin .append, args := #[s, x], argTypes := #[t, t] }) (base T : Nat) (ht : P.underlying t = some (.slice T))
    (hi : (P.info? T).map (fun i => (i.zero, i.size, i.bytes)) = some (some (.slice none 0 0), 1, 24)) (hT : 5 ≠ T)
    {v : Value} {l : List (List UInt8)} (hs : a.eval s = v) (hown : PtsO w base T v l) {g : Nat} {y : List UInt8} {r : Value} (hx : a.eval x = .slice (some ⟨g, 0, none⟩) 1 1)
    {ty : TypeId} {fr : Nat × Nat} (hblk : w.heap[g]? = some (.cells #[r] ty fr)) (hr : Own w base 5 r y)
    (N : Nat) (hN : N = l.length + 1) (hb : N * 24 ≤ 140737488355328) (hbase : base ≤ w.heap.size)
    (h : ∀ ao cap w', PtsO w' base T (.slice ao N cap) (l ++ [y]) → w.grownBy w' v.ownBlock → Below base w w' → wpList P ops Q rest (a.put o.dst (.slice ao N cap)) w') :
    wpList P ops Q (o :: rest) a w := by
  subst hN
  obtain ⟨m, rfl, h2, h3⟩ := hown
  have hone : r.oneCell' = true := by
    obtain ⟨ao, cap, rfl, _⟩ := hr.byt.open
    rfl
  have hlen : (m.map (·.1)).length = m.length := by simp
  rw [hlen] at hb h
  refine wpList_append_sl hgd s x t ho base T ht hi rfl (by decide) hs h2 hx (blk_sl (cs := [r]) hblk rfl) (by
    intro y' hy'
    simp at hy'
    subst hy'; exact hone) (by simp [maxLen]; omega) (by omega) hbase fun ao cap w' k1 k2 k3 => ?_
  refine h ao cap w' ⟨m ++ [(y, r)], by simp, by simpa using k1, ?_⟩ k2 k3
  intro p hp
  rcases List.mem_append.1 hp with hp | hp
  · exact rows_far (h3 p hp) h2 hT k2
  · simp at hp; subst hp
    exact rows_far hr h2 hT k2
end
end Go.Proofs.YtinancnlangkjaaGreatDoor

set_option linter.unusedSimpArgs false
set_option linter.unusedVariables false
set_option maxRecDepth 100000
namespace Go.Proofs.YtinancnlangkjaaGreatDoor
open Go Go.RowKit Go.Tum Go.ChangeMaps Go.Tum.Crc Go.Tum.Vint Go.Tum.Opm Go.Nam

theorem allR_succ {l : List Oq} {k : Nat} (h : k < l.length) : allR (l.take (k + 1)) = (allR (l.take k) && opRight l[k]) := by
  rw [List.take_succ_eq_append_getElem h, allR_append]; simp [allR]
theorem allR_bad {l : List Oq} {k : Nat} (h : k < l.length) (hb : opRight l[k] = false) : allR l = false := by
  cases ha : allR l with
  | false => rfl
  | true =>
    simp only [allR, List.all_eq_true] at ha
    rw [ha _ (List.getElem_mem h)] at hb; cases hb
theorem take_all {l : List Oq} {k : Nat} (h : ¬ k < l.length) : l.take k = l := List.take_of_length_le (by omega)
/-- Acts' records, or an error. -/
def recsV (l : List Oq) : List Rc × Int := if allR l = true then (l.map opRec, 0) else ([], 1)
theorem recsV_ok {l : List Oq} (h : allR l = true) : recsV l = (l.map opRec, 0) := by unfold recsV; rw [if_pos h]
theorem recsV_no {l : List Oq} (h : allR l = false) : recsV l = ([], 1) := by unfold recsV; rw [if_neg (by simp [h])]
theorem i64e (x : Int) {k : Nat} (h : x = (k : Int)) (hk : k ≤ 9223372036854775807) : IntKind.i64.wrap x = (k : Int) := by
  subst h; exact IntWalk.i64_in _ ⟨by omega, by omega⟩
set_option maxHeartbeats 2000000 in
theorem each1_any (v : Value) (l : List Oq) (w : World) (hv : Ops w v l) (hl : l.length ≤ 1000000) :
    Calls Tryz.prog 43 #[v, .func (.func 44) #[] #[]] w fun e w' => ∃ u, e = .returned (.tuple #[u, .int .i64 (recsV l).2]) ∧ RcsO w' w.heap.size 86 u (recsV l).1 ∧ Ext w w' := by
  obtain ⟨ao, cap, rfl, hle, hmx, hnn, hcell⟩ := hv.open
  have HC := hid hcell
  have HNN := hid hnn
  have HL := hid hl
  have en := enter_of Tryz.func44 (by kernel_rfl) (by kernel_rfl)
  clear hv hnn hcell
  go_enter Tryz.func43, Tryz.ntmps43
  go_wp2
  go_loopw [6, 13] (fun o i wr => ∃ (k : Nat) (bo : Option Addr) (bc : Nat), k ≤ l.length ∧ i = .int .i64 (k : Int) ∧ o = .slice bo k bc ∧ Hid (RcsO wr w.heap.size 86 (.slice bo k bc) ((l.take k).map opRec)) ∧ Hid (allR (l.take k) = true) ∧ Hid (Ext w wr)) (fun _ i _ => l.length - (intOf i).toNat)
  case atStart => exact ⟨0, none, 0, Nat.zero_le _, rfl, rfl, hid (RcsO.nil _ _ _), hid rfl, hid (Ext.refl _)⟩
  case round =>
    obtain ⟨k, bo, bc, hk, rfl, rfl, HO, HA, HE⟩ := hrel
    by_cases hlt : k < l.length
    · have hkj : decide ((k : Int) < (l.length : Int)) = true := by simp; omega
      obtain ⟨a, rfl⟩ := HNN.out (by omega)
      have hc := fun j u h => HE.out.cell (HC.out a rfl k hlt j u h)
      have hsu := allR_succ hlt
      have hbad := allR_bad hlt
      have htk := List.take_succ_eq_append_getElem hlt
      obtain ⟨o, ho⟩ : ∃ o, l[k] = o := ⟨_, rfl⟩
      rw [ho] at hc hsu hbad htk
      obtain ⟨dd, lane, id, n, name, seg, at', size⟩ := o
      have k0 := cell_first (hc 0 _ rfl)
      have k1 := cell_next (hc 1 _ rfl) (by decide)
      have k2 := cell_next (hc 2 _ rfl) (by decide)
      have k3 := cell_next (hc 3 _ rfl) (by decide)
      have k4 := cell_next (hc 4 _ rfl) (by decide)
      have k5 := cell_next (hc 5 _ rfl) (by decide)
      have k6 := cell_next (hc 6 _ rfl) (by decide)
      have k7 := cell_next (hc 7 _ rfl) (by decide)
      obtain ⟨R, hR⟩ : ∃ R, opRight ⟨dd, lane, id, n, name, seg, at', size⟩ = R := ⟨_, rfl⟩
      have HBAD := hid hbad
      have HTK := hid htk
      rw [hR] at hsu HBAD
      have HSU := hid hsu
      have HLT := hid hlt
      have hrec : recV ⟨dd, lane, id, n, name, seg, at', size⟩ = if R = true then (opRec ⟨dd, lane, id, n, name, seg, at', size⟩, 0) else (r0, 1) := by unfold recV; rw [hR]
      have HREC := hid hrec
      obtain ⟨W1, hW1⟩ : ∃ W, wr.alloc (.cells #[.int .i64 dd, .int .i64 lane, uv id, uv n, .string (str name), uv seg, uv at', .int .i64 size] 68 (0, 0)) = W := ⟨_, rfl⟩
      have hE1 := Ext.alloc wr (.cells #[.int .i64 dd, .int .i64 lane, uv id, uv n, .string (str name), uv seg, uv at', .int .i64 size] 68 (0, 0))
      have hb1 := heap_alloc_new wr (.cells #[.int .i64 dd, .int .i64 lane, uv id, uv n, .string (str name), uv seg, uv at', .int .i64 size] 68 (0, 0))
      rw [hW1] at hE1 hb1
      obtain ⟨⟨m0, m1, m2, m3, m4, m5, m6, m7⟩, mf⟩ := blk8 hb1
      have HE1 := hid (HE.out.trans hE1)
      have HO1 := hid (HO.out.ext hE1)
      have hcb := orec_any ⟨dd, lane, id, n, name, seg, at', size⟩ W1
      rw [HREC.out] at hcb
      have HCB := hid hcb
      clear hc hsu hbad htk ho hR hrec hE1 hb1 hcb hlt HREC HO HE
      go_wp2_with fail
      try rw [hW1]
      clear hW1 k0 k1 k2 k3 k4 k5 k6 k7 m0 m1 m2 m3 m4 m5 m6 m7 mf
      refine HCB.out.mono ?_
      rintro e w2 ⟨u, rfl, hu, hx⟩
      have HE2 := hid (HE1.out.trans hx)
      have HO2 := hid (HO1.out.ext hx)
      have HU2 := hid (hu.mono HE1.out.size)
      clear hu hx HCB HE1 HO1
      cases R with
      | false =>
        have HF := hid (recsV_no (HBAD.out rfl))
        simp only [if_neg (show ¬ false = true by decide)] at HU2 ⊢
        obtain ⟨uo, uc, rfl⟩ := HU2.out.shape
        go_wp2
        go_returns
        rw [HF.out]
        exact ⟨_, rfl, RcsO.nil _ _ _, HE2.out.trans (Ext.alloc _ _)⟩
      | true =>
        simp only [if_true] at HU2 ⊢
        obtain ⟨uo, uc, rfl⟩ := HU2.out.shape
        obtain ⟨un, hun⟩ : ∃ m, (opRec ⟨dd, lane, id, n, name, seg, at', size⟩).n.length = m := ⟨_, rfl⟩
        rw [hun] at HU2
        try rw [hun]
        clear hun
        have hA : allR (l.take (k + 1)) = true := by rw [HSU.out, HA.out]; rfl
        have HA2 := hid hA
        clear hA
        obtain ⟨d0, d1, d2⟩ := blk3 (heap_alloc_new w2 (.cells #[.int .i64 dd, .slice uo un uc, .string (str name)] 86))
        have HBLK : Hid (((w2.alloc (.cells #[.int .i64 dd, .slice uo un uc, .string (str name)] 86)).alloc (.cells #[.int .i64 dd, .slice uo un uc, .string (str name)] 86)).heap[w2.heap.size + 1]? = some (.cells #[.int .i64 dd, .slice uo un uc, .string (str name)] 86)) := hid (heap_alloc2_new _ _ _)
        have hX := (Ext.alloc w2 (.cells #[.int .i64 dd, .slice uo un uc, .string (str name)] 86)).trans (Ext.alloc _ (.cells #[.int .i64 dd, .slice uo un uc, .string (str name)] 86))
        have HO3 := hid (HO2.out.ext hX)
        have HU3 := hid (HU2.out.ext hX)
        have HX3 := hid (HE2.out.trans hX)
        have hN : k + 1 = ((l.take k).map opRec).length + 1 := by rw [List.length_map, List.length_take]; have := HLT.out; omega
        have hNb : (k + 1) * 48 ≤ 140737488355328 := by have := HLT.out; have := HL.out; omega
        have HN := hid hN
        have HNB := hid hNb
        clear hX hN hNb
        go_wp2_with (at_builtin; refine wpList_append_rc rfl (.tmp 26) (.tmp 28) 81 rfl w.heap.size 86 Tryz.underlying81 infoRc (by decide) rfl HO3.out rfl (y := opRec ⟨dd, lane, id, n, name, seg, at', size⟩) HBLK.out HU3.out (k + 1) HN.out HNB.out HX3.out.size ?_; intro ao2 cap2 w3 hown2 hg2 hb2; obtain ⟨HO4, HX4⟩ := And.intro (hid hown2) (hid (HX3.out.below hb2)); clear hown2 hg2 hb2)
        have hwk : IntKind.i64.wrap ((k : Int) + 1) = ((k + 1 : Nat) : Int) := i64e _ (by omega) (by have := HLT.out; have := HL.out; omega)
        go_roundw
        case rel =>
          refine ⟨k + 1, ao2, cap2, HLT.out, by first | rfl | go_num, rfl, hid ?_, HA2, HX4⟩
          rw [HTK.out, List.map_append]
          exact HO4.out
        case measure => have := HLT.out; simp [intOf]; omega
    · have hkf : decide ((k : Int) < (l.length : Int)) = false := by simp; omega
      have hkf2 : (k < l.length) = False := by simp; omega
      have HT := hid (take_all hlt)
      clear hlt
      go_wp2
      go_returns
      have hA := HA.out
      have hO := HO.out
      rw [HT.out] at hA hO
      rw [recsV_ok hA]
      exact ⟨_, rfl, hO, HE.out⟩
/-- Records' bytes, or an error. -/
def bytesV (l : List Rc) : List (List UInt8) × Int := if l.all rightB = true then (l.map recB, 0) else ([], 1)
theorem bytesV_ok {l : List Rc} (h : l.all rightB = true) : bytesV l = (l.map recB, 0) := by unfold bytesV; rw [if_pos h]
theorem bytesV_no {l : List Rc} {r : Rc} (h : r ∈ l) (hr : rightB r = false) : bytesV l = ([], 1) := by
  unfold bytesV
  rw [if_neg]
  intro ha
  rw [List.all_eq_true] at ha
  rw [ha r h] at hr; cases hr
set_option maxHeartbeats 2000000 in
theorem each2_any (v : Value) (m : List (Rc × Value)) (w : World) (hr : RowsOf w 3 v rcells m) (hi : ∀ q ∈ m, Vec uv w q.2 q.1.n) (hl : m.length ≤ 1000000) (ht : Tab w) :
    Calls Tryz.prog 45 #[v, .func (.func 46) #[] #[]] w fun e w' => ∃ u, e = .returned (.tuple #[u, .int .i64 (bytesV (m.map (·.1))).2]) ∧ PtsO w' w.heap.size 35 u (bytesV (m.map (·.1))).1 ∧ Ext w w' := by
  obtain ⟨ao, cap, rfl, hle, hmx, hnn, hcell⟩ := hr.open
  have HC := hid hcell
  have HNN := hid hnn
  have HI := hid hi
  have HL := hid hl
  have HT := hid ht
  have en := enter_of Tryz.func46 (by kernel_rfl) (by kernel_rfl)
  clear hr hi ht hnn hcell
  go_enter Tryz.func45, Tryz.ntmps45
  go_wp2
  go_loopw [6, 13] (fun o i wr => ∃ (k : Nat) (bo : Option Addr) (bc : Nat), k ≤ m.length ∧ i = .int .i64 (k : Int) ∧ o = .slice bo k bc ∧ Hid (PtsO wr w.heap.size 35 (.slice bo k bc) (((m.take k).map (·.1)).map recB)) ∧ Hid (((m.take k).map (·.1)).all rightB = true) ∧ Hid (Ext w wr)) (fun _ i _ => m.length - (intOf i).toNat)
  case atStart => exact ⟨0, none, 0, Nat.zero_le _, rfl, rfl, hid (PtsO.nil _ _ _), hid rfl, hid (Ext.refl _)⟩
  case round =>
    obtain ⟨k, bo, bc, hk, rfl, rfl, HO, HA, HE⟩ := hrel
    by_cases hlt : k < m.length
    · have hkj : decide ((k : Int) < (m.length : Int)) = true := by simp; omega
      obtain ⟨a, rfl⟩ := HNN.out (by omega)
      have c0 := HE.out.cell (HC.out a rfl k hlt 0 _ rfl)
      have c1 := HE.out.cell (HC.out a rfl k hlt 1 _ rfl)
      have c2 := HE.out.cell (HC.out a rfl k hlt 2 _ rfl)
      have hvk := (HI.out _ (List.getElem_mem hlt)).ext HE.out
      have htk := List.take_succ_eq_append_getElem hlt
      have hmem := List.getElem_mem hlt
      obtain ⟨q, hq⟩ : ∃ q, m[k] = q := ⟨_, rfl⟩
      rw [hq] at c0 c1 c2 hvk htk hmem
      obtain ⟨⟨kind, rn, text⟩, uu⟩ := q
      dsimp only at c0 c1 c2 hvk
      obtain ⟨uo, uc, rfl, -⟩ := hvk.open
      obtain ⟨un, hun⟩ : ∃ n, rn.length = n := ⟨_, rfl⟩
      rw [hun] at c1 hvk
      have k0 := cell_first c0
      have k1 := cell_next c1 (by decide)
      have k2 := cell_next c2 (by decide)
      have HTK := hid htk
      have HMEM := hid hmem
      have HLT := hid hlt
      obtain ⟨W1, hW1⟩ : ∃ W, wr.alloc (.cells #[.int .i64 kind, .slice uo un uc, .string (str text)] 86 (0, 0)) = W := ⟨_, rfl⟩
      have hE1 := Ext.alloc wr (.cells #[.int .i64 kind, .slice uo un uc, .string (str text)] 86 (0, 0))
      have hb1 := heap_alloc_new wr (.cells #[.int .i64 kind, .slice uo un uc, .string (str text)] 86 (0, 0))
      rw [hW1] at hE1 hb1
      obtain ⟨m0, m1, m2⟩ := blk3 hb1
      have HE1 := hid (HE.out.trans hE1)
      have HO1 := hid (HO.out.ext hE1)
      have HVK := hid (hvk.ext hE1)
      clear c0 c1 c2 hvk htk hmem hq hE1 hb1 hlt HO HE hun
      obtain ⟨R, hR⟩ : ∃ R, rightB ⟨kind, rn, text⟩ = R := ⟨_, rfl⟩
      have HR := hid hR
      have hcb := bytes5_any ⟨kind, rn, text⟩ (.slice uo un uc) W1 HVK.out (HT.out.ext HE1.out)
      have HCB := hid hcb
      clear hR hcb
      go_wp2_with fail
      try rw [hW1]
      clear hW1 k0 k1 k2 m0 m1 m2
      refine HCB.out.mono ?_
      rintro e w2 ⟨y, rfl, hy, hx⟩
      have HE2 := hid (HE1.out.trans hx)
      have HO2 := hid (HO1.out.ext hx)
      have HY := hid (hy.mono HE1.out.size)
      clear hy hx HCB HE1 HO1 HVK
      cases R with
      | false =>
        have HF := hid (bytesV_no (List.mem_map_of_mem (f := (·.1)) HMEM.out) HR.out)
        rw [recBytes_bad HR.out] at HY ⊢
        dsimp only at HY ⊢
        obtain ⟨yo, yc, rfl⟩ := row_shape HY.out
        go_wp2
        go_returns
        rw [HF.out]
        exact ⟨_, rfl, PtsO.nil _ _ _, HE2.out⟩
      | true =>
        rw [recBytes_ok HR.out] at HY ⊢
        dsimp only at HY ⊢
        obtain ⟨yo, yc, rfl⟩ := row_shape HY.out
        obtain ⟨yn, hyn⟩ : ∃ n, (fbytes (recFr (⟨kind, rn, text⟩ : Rc))).length = n := ⟨_, rfl⟩
        rw [hyn] at HY ⊢
        clear hyn
        have hA : ((m.take (k + 1)).map (·.1)).all rightB = true := by rw [HTK.out, List.map_append, List.all_append, HA.out]; simpa using HR.out
        have HA2 := hid hA
        clear hA
        have HBLK : Hid ((w2.alloc (.cells #[.slice yo yn yc] 35)).heap[w2.heap.size]? = some (.cells #[.slice yo yn yc] 35)) := hid (heap_alloc_new _ _)
        have hX := Ext.alloc w2 (.cells #[.slice yo yn yc] 35)
        have HO3 := hid (HO2.out.ext hX)
        have HY3 := hid (HY.out.ext hX)
        have HX3 := hid (HE2.out.trans hX)
        have hN : k + 1 = (((m.take k).map (·.1)).map recB).length + 1 := by rw [List.length_map, List.length_map, List.length_take]; have := HLT.out; omega
        have hNb : (k + 1) * 24 ≤ 140737488355328 := by have := HLT.out; have := HL.out; omega
        have HN := hid hN
        have HNB := hid hNb
        clear hX hN hNb
        go_wp2_with (at_builtin; refine wpList_append_pt rfl (.tmp 26) (.tmp 28) 88 rfl w.heap.size 35 Tryz.underlying88 infoByt (by decide) rfl HO3.out rfl HBLK.out HY3.out (k + 1) HN.out HNB.out HX3.out.size ?_; intro ao2 cap2 w3 hown2 hg2 hb2; obtain ⟨HO4, HX4⟩ := And.intro (hid hown2) (hid (HX3.out.below hb2)); clear hown2 hg2 hb2)
        have hwk : IntKind.i64.wrap ((k : Int) + 1) = ((k + 1 : Nat) : Int) := i64e _ (by omega) (by have := HLT.out; have := HL.out; omega)
        go_roundw
        case rel =>
          refine ⟨k + 1, ao2, cap2, HLT.out, by first | rfl | go_num, rfl, hid ?_, HA2, HX4⟩
          rw [HTK.out, List.map_append, List.map_append]
          exact HO4.out
        case measure => have := HLT.out; simp [intOf]; omega
    · have hkf : decide ((k : Int) < (m.length : Int)) = false := by simp; omega
      have hkf2 : (k < m.length) = False := by simp; omega
      have HTA : Hid (m.take k = m) := hid (List.take_of_length_le (by omega))
      clear hlt
      go_wp2
      go_returns
      have hA := HA.out
      have hO := HO.out
      rw [HTA.out] at hA hO
      rw [bytesV_ok hA]
      exact ⟨_, rfl, hO, HE.out⟩
theorem opOf_two {r : Rc} : (opOf r).2 = 0 ∨ opOf r = (o0, 2) := by
  by_cases h : (opOf r).2 = 0
  · exact .inl h
  · exact .inr (opOf_err h)
set_option maxHeartbeats 2000000 in
theorem each3_any (v : Value) (m : List (Rc × Value)) (w : World) (hr : RowsOf w 3 v rcells m) (hi : ∀ q ∈ m, Vec uv w q.2 q.1.n) (hl : m.length ≤ 1048576) (ht : Tab w) :
    Calls Tryz.prog 52 #[v, .func (.func 53) #[] #[]] w fun e w' => ∃ u, e = .returned (.tuple #[u, .int .i64 (opsOf (m.map (·.1))).2]) ∧ OpsO w' w.heap.size 68 u (opsOf (m.map (·.1))).1 ∧ Ext w w' := by
  obtain ⟨ao, cap, rfl, hle, hmx, hnn, hcell⟩ := hr.open
  have HC := hid hcell
  have HNN := hid hnn
  have HI := hid hi
  have HL := hid hl
  have HT := hid ht
  have en := enter_of Tryz.func53 (by kernel_rfl) (by kernel_rfl)
  clear hr hi ht hnn hcell
  go_enter Tryz.func52, Tryz.ntmps52
  go_wp2
  go_loopw [6, 13] (fun o i wr => ∃ (k : Nat) (acc : List Oq) (bo : Option Addr) (bc : Nat), k ≤ m.length ∧ i = .int .i64 (k : Int) ∧ o = .slice bo k bc ∧ Hid (acc.length = k) ∧ Hid (OpsO wr w.heap.size 68 (.slice bo k bc) acc) ∧ Hid (opsOf ((m.take k).map (·.1)) = (acc, 0)) ∧ Hid (Ext w wr)) (fun _ i _ => m.length - (intOf i).toNat)
  case atStart => exact ⟨0, [], none, 0, Nat.zero_le _, rfl, rfl, hid rfl, hid (OpsO.nil _ _ _), hid rfl, hid (Ext.refl _)⟩
  case round =>
    obtain ⟨k, acc, bo, bc, hk, rfl, rfl, HAL, HO, HA, HE⟩ := hrel
    by_cases hlt : k < m.length
    · have hkj : decide ((k : Int) < (m.length : Int)) = true := by simp; omega
      obtain ⟨a, rfl⟩ := HNN.out (by omega)
      have c0 := HE.out.cell (HC.out a rfl k hlt 0 _ rfl)
      have c1 := HE.out.cell (HC.out a rfl k hlt 1 _ rfl)
      have c2 := HE.out.cell (HC.out a rfl k hlt 2 _ rfl)
      have hvk := (HI.out _ (List.getElem_mem hlt)).ext HE.out
      have htk := List.take_succ_eq_append_getElem hlt
      have hmem := List.getElem_mem hlt
      obtain ⟨q, hq⟩ : ∃ q, m[k] = q := ⟨_, rfl⟩
      rw [hq] at c0 c1 c2 hvk htk hmem
      obtain ⟨⟨kind, rn, text⟩, uu⟩ := q
      dsimp only at c0 c1 c2 hvk
      obtain ⟨uo, uc, rfl, -⟩ := hvk.open
      obtain ⟨un, hun⟩ : ∃ n, rn.length = n := ⟨_, rfl⟩
      rw [hun] at c1 hvk
      have k0 := cell_first c0
      have k1 := cell_next c1 (by decide)
      have k2 := cell_next c2 (by decide)
      have HTK := hid htk
      have HMEM := hid hmem
      have HLT := hid hlt
      obtain ⟨W1, hW1⟩ : ∃ W, wr.alloc (.cells #[.int .i64 kind, .slice uo un uc, .string (str text)] 86 (0, 0)) = W := ⟨_, rfl⟩
      have hE1 := Ext.alloc wr (.cells #[.int .i64 kind, .slice uo un uc, .string (str text)] 86 (0, 0))
      have hb1 := heap_alloc_new wr (.cells #[.int .i64 kind, .slice uo un uc, .string (str text)] 86 (0, 0))
      rw [hW1] at hE1 hb1
      obtain ⟨m0, m1, m2⟩ := blk3 hb1
      have HE1 := hid (HE.out.trans hE1)
      have HO1 := hid (HO.out.ext hE1)
      have HVK := hid (hvk.ext hE1)
      clear c0 c1 c2 hvk htk hmem hq hE1 hb1 hlt HO HE hun
      have hcb := oof_any ⟨kind, rn, text⟩ (.slice uo un uc) W1 HVK.out (HT.out.ext HE1.out)
      have hsn := opsOf_snoc ((m.take k).map (·.1)) ⟨kind, rn, text⟩ (by rw [HA.out])
      have hbad := fun h => opsOf_bad (List.mem_map_of_mem (f := (·.1)) HMEM.out) (r := ⟨kind, rn, text⟩) h
      rw [HA.out] at hsn
      have h2 := @opOf_two ⟨kind, rn, text⟩
      obtain ⟨Z, hZ⟩ : ∃ Z, opOf ⟨kind, rn, text⟩ = Z := ⟨_, rfl⟩
      rw [hZ] at hcb hsn hbad h2
      obtain ⟨⟨dd, lane, id, n, name, seg, at', size⟩, er⟩ := Z
      dsimp only at hcb hsn hbad h2
      have HCB := hid hcb
      have HSN := hid hsn
      have HBAD := hid hbad
      have H2 := hid h2
      clear hcb hsn hbad h2 hZ
      go_wp2_with fail
      try rw [hW1]
      clear hW1 k0 k1 k2 m0 m1 m2
      refine HCB.out.mono ?_
      rintro e w2 ⟨rfl, hx⟩
      have HE2 := hid (HE1.out.trans hx)
      have HO2 := hid (HO1.out.ext hx)
      clear hx HCB HE1 HO1 HVK
      rcases H2.out with h0 | h0
      · subst h0
        have HSN2 : Hid (opsOf ((m.take (k + 1)).map (·.1)) = (acc ++ [⟨dd, lane, id, n, name, seg, at', size⟩], 0)) := hid (by
          rw [HTK.out, List.map_append]
          have := HSN.out
          rw [if_neg (by simp)] at this
          exact this)
        have HBLK : Hid (((w2.alloc (.cells #[.int .i64 dd, .int .i64 lane, uv id, uv n, .string (str name), uv seg, uv at', .int .i64 size] 68)).alloc (.cells #[.int .i64 dd, .int .i64 lane, uv id, uv n, .string (str name), uv seg, uv at', .int .i64 size] 68)).heap[w2.heap.size + 1]? = some (.cells #[.int .i64 dd, .int .i64 lane, uv id, uv n, .string (str name), uv seg, uv at', .int .i64 size] 68)) := hid (heap_alloc2_new _ _ _)
        have hX := (Ext.alloc w2 (.cells #[.int .i64 dd, .int .i64 lane, uv id, uv n, .string (str name), uv seg, uv at', .int .i64 size] 68)).trans (Ext.alloc _ (.cells #[.int .i64 dd, .int .i64 lane, uv id, uv n, .string (str name), uv seg, uv at', .int .i64 size] 68))
        have HO3 := hid (HO2.out.ext hX)
        have HX3 := hid (HE2.out.trans hX)
        have hN : k + 1 = acc.length + 1 := by rw [HAL.out]
        have hNb : (k + 1) * 72 ≤ 140737488355328 := by have := HLT.out; have := HL.out; omega
        have HN := hid hN
        have HNB := hid hNb
        clear hX hN hNb
        go_wp2_with (at_builtin; refine wpList_append_op rfl (.tmp 26) (.tmp 28) 33 rfl w.heap.size 68 Tryz.underlying33 infoOp rfl HO3.out (y := ⟨dd, lane, id, n, name, seg, at', size⟩) rfl HBLK.out (k + 1) HN.out HNB.out HX3.out.size ?_; intro ao2 cap2 w3 hown2 hg2 hb2; obtain ⟨HO4, HX4⟩ := And.intro (hid hown2) (hid (HX3.out.below hb2)); clear hown2 hg2 hb2)
        have hwk : IntKind.i64.wrap ((k : Int) + 1) = ((k + 1 : Nat) : Int) := i64e _ (by omega) (by have := HLT.out; have := HL.out; omega)
        go_roundw
        case rel =>
          refine ⟨k + 1, acc ++ [⟨dd, lane, id, n, name, seg, at', size⟩], ao2, cap2, HLT.out, by first | rfl | go_num, rfl, hid (by rw [List.length_append, HAL.out]; rfl), HO4, HSN2, HX4⟩
        case measure => have := HLT.out; simp [intOf]; omega
      · obtain ⟨h1, rfl⟩ := Prod.mk.inj h0
        cases h1
        have HF := hid (HBAD.out (by decide))
        clear h0
        go_wp2
        go_returns
        rw [HF.out]
        exact ⟨_, rfl, OpsO.nil _ _ _, HE2.out.trans (Ext.alloc _ _)⟩
    · have hkf : decide ((k : Int) < (m.length : Int)) = false := by simp; omega
      have hkf2 : (k < m.length) = False := by simp; omega
      have HTA : Hid (m.take k = m) := hid (List.take_of_length_le (by omega))
      clear hlt
      go_wp2
      go_returns
      have hA := HA.out
      have hO := HO.out
      rw [HTA.out] at hA
      rw [hA]
      exact ⟨_, rfl, by have := HAL.out; show World.ownsRow _ _ _ _ _ _ _; exact hO, HE.out⟩
end Go.Proofs.YtinancnlangkjaaGreatDoor

namespace Go.Proofs
open Go.Shelf
def Tryz.laysSlJ14_ren : Go.Shelf.Ren := ⟨fun | 14 => 47 | 15 => 87 | n => n, fun | 26 => 88 | 22 => 35 | 3 => 3 | 4 => 4 | 0 => 0 | 9 => 9 | 20 => 20 | 5 => 5 | n => n, fun | n => n⟩
theorem Tryz.laysSlJ14 : Go.Proofs.SlLaysJ.n14 Tryz.prog Tryz.laysSlJ14_ren := {
  mixed := by kernel_rfl
  f14 := Tryz.func47.trans (congrArg some (by kernel_rfl))
  f15 := Tryz.func87.trans (congrArg some (by kernel_rfl))
  t0 := Tryz.underlying0
  a0 := Tryz.isAgg0
  z0 := Tryz.sizeOf0
  v0 := Tryz.zeroValue0
  t3 := Tryz.underlying3
  a3 := Tryz.isAgg3
  z3 := Tryz.sizeOf3
  v3 := Tryz.zeroValue3
  t4 := Tryz.underlying4
  a4 := Tryz.isAgg4
  z4 := Tryz.sizeOf4
  v4 := Tryz.zeroValue4
  t9 := Tryz.underlying9
  a9 := Tryz.isAgg9
  z9 := Tryz.sizeOf9
  v9 := Tryz.zeroValue9
  t20 := Tryz.underlying20
  a20 := Tryz.isAgg20
  z20 := Tryz.sizeOf20
  v20 := Tryz.zeroValue20
  t22 := Tryz.underlying35
  a22 := Tryz.isAgg35
  z22 := Tryz.sizeOf35
  v22 := Tryz.zeroValue35
  t26 := Tryz.underlying88
  a26 := Tryz.isAgg88
  z26 := Tryz.sizeOf88
  v26 := Tryz.zeroValue88
  t5 := Tryz.underlying5
  z5 := Tryz.sizeOf5
  i5 := by kernel_rfl }
open Go.RowKit Go.Lib in
theorem Tryz.bytes_Join_many (b o n c : Nat) (vs : List Value) (ls : List (List UInt8)) (sv : Value) (sep : List UInt8) (w : World) (hn : ls.length = n) (h2 : 2 ≤ n) (hP : Lib.PartsAt w ⟨b, o, none⟩ vs ls) (hcap : n ≤ c) (hS : Lib.HoldsBytes w sv sep) (hn47 : n ≤ 140737488355328) (hlen : Lib.lens ls + sep.length * (n - 1) ≤ 140737488355328) :
    Calls Tryz.prog 47 #[.slice (some ⟨b, o, none⟩) n c, sv] w fun e w' => ∃ v', e = .returned v' ∧ Lib.FreshBytes w.heap.size w' v' (Lib.join ls sep) ∧ Below w.heap.size w w' := Any.bytes_Join_many Tryz.laysSlJ14 b o n c vs ls sv sep w hn h2 hP hcap hS hn47 hlen
open Go.RowKit Go.Lib in
theorem Tryz.bytes_Join_none (p : Option Addr) (c : Nat) (sv : Value) (w : World) :
    Calls Tryz.prog 47 #[.slice p 0 c, sv] w fun e w' => e = .returned (.slice (some ⟨w.heap.size, 0, none⟩) 0 0) ∧ w' = w.alloc (.cells #[] 5) := Any.bytes_Join_none Tryz.laysSlJ14 p c sv w
open Go.RowKit Go.Lib in
theorem Tryz.bytes_Join_one (b o c : Nat) (ad0 : Addr) (c0 : Nat) (l0 : List UInt8) (sv : Value) (w : World) (hcell : w.cell? ⟨b, o, none⟩ = some (.slice (some ad0) l0.length c0)) (hc : ∀ (i : Nat) x, l0[i]? = some x → w.cell? (ad0.add i) = some (.int .u8 (x.toNat : Int))) (h0 : 0 < l0.length) (hs : l0.length ≤ 140737488355328) :
    Calls Tryz.prog 47 #[.slice (some ⟨b, o, none⟩) 1 c, sv] w fun e w' => ∃ v', e = .returned v' ∧ Lib.FreshBytes w.heap.size w' v' l0 ∧ Below w.heap.size w w' := Any.bytes_Join_one Tryz.laysSlJ14 b o c ad0 c0 l0 sv w hcell hc h0 hs
open Go.RowKit Go.Lib in
theorem Tryz.bytes_Join_one_empty (b o c : Nat) (p0 : Option Addr) (c0 : Nat) (sv : Value) (w : World) (hcell : w.cell? ⟨b, o, none⟩ = some (.slice p0 0 c0)) :
    Calls Tryz.prog 47 #[.slice (some ⟨b, o, none⟩) 1 c, sv] w fun e w' => e = .returned (.slice none 0 0) ∧ w' = w := Any.bytes_Join_one_empty Tryz.laysSlJ14 b o c p0 c0 sv w hcell
end Go.Proofs

set_option linter.unusedSimpArgs false
set_option linter.unusedVariables false
set_option maxRecDepth 100000
namespace Go.Proofs.YtinancnlangkjaaGreatDoor
open Go Go.RowKit Go.Tum Go.ChangeMaps Go.Tum.Crc Go.Tum.Vint Go.Tum.Opm Go.Nam

theorem plain_add (g j : Nat) : (⟨g, 0, none⟩ : Addr).add j = ⟨g, j, none⟩ := by unfold Addr.add; split <;> simp_all
theorem fresh_byt {B : Nat} {w : World} {v : Value} {l : List UInt8} (h : Lib.FreshBytes B w v l) : Byt w v l := by
  obtain ⟨g, cap, zs, rfl, hB, hle, hm, hz, hr, hb, hc, hf⟩ := h
  refine ⟨by simp, some ⟨g, 0, none⟩, cap, rfl, hle, hm, (fun h => by cases h), fun a ha j u hu => ?_⟩
  cases ha
  rw [plain_add]
  rw [List.getElem?_map] at hu
  have hj : j < l.length := by
    rcases Nat.lt_or_ge j l.length with q | q
    · exact q
    · rw [List.getElem?_eq_none q] at hu; cases hu
  rw [List.getElem?_eq_getElem hj] at hu
  simp only [Option.map_some, Option.some.injEq] at hu
  have hjz : j < zs.length := by omega
  have hl : l[j] = UInt8.ofNat (zs[j]).toNat := by
    have h1 : l[j]? = (Lib.bytesOf (zs.take l.length))[j]? := by rw [hb]
    unfold Lib.bytesOf at h1
    rw [List.getElem?_eq_getElem hj, List.getElem?_map, List.getElem?_take, if_pos hj, List.getElem?_eq_getElem hjz] at h1
    simpa using h1
  have h2 := hr _ (List.getElem_mem hjz)
  rw [← hu, hc j (by omega), List.getD_eq_getElem?_getD, List.getElem?_eq_getElem hjz]
  simp only [Option.getD_some, bv, hl]
  congr 2
  simp
  omega
theorem join_flat : ∀ (l : List (List UInt8)), Lib.join l [] = l.flatten
  | [] => rfl
  | x :: r => by
    rw [Lib.join_cons]
    unfold Lib.joinTail
    simp
theorem lens_flat (l : List (List UInt8)) : Lib.lens l = l.flatten.length := by
  rw [List.length_flatten]; rfl
theorem own_holds {w : World} {b e : Nat} {v : Value} {l : List UInt8} (h : Own w b e v l) : Lib.HoldsBytes w v l := by
  obtain ⟨ao, cap, rfl, h1, h2, h3, h4⟩ := h.byt.open
  refine ⟨ao, cap, rfl, fun e => ?_, fun a ha i x hx => ?_⟩
  · subst e
    rcases Nat.eq_zero_or_pos cap with q | q
    · exact List.length_eq_zero_iff.1 (by omega)
    · obtain ⟨a, q⟩ := h3 q; cases q
  · obtain ⟨hi, rfl⟩ := List.getElem?_eq_some_iff.1 hx
    exact h4 a ha i hi
theorem bjoin_any {B T : Nat} (v : Value) (l : List (List UInt8)) (w : World) (h : PtsO w B T v l) (hne : ∀ x ∈ l, x ≠ []) (hs : l.flatten.length ≤ 1048576) (hl : l.length ≤ 1048576) :
    Calls Tryz.prog 47 #[v, .slice none 0 0] w fun e w' => (∃ u, e = .returned u ∧ Byt w' u l.flatten) ∧ Ext w w' := by
  obtain ⟨m, rfl, h2, h3⟩ := h
  rcases h2.2 with ⟨rfl, h0⟩ | ⟨g, cap, cur, rfl, hB, hg, hc1, hc2, hc3, hc4⟩
  · have hm : m = [] := List.length_eq_zero_iff.1 h0
    subst hm
    refine (Tryz.bytes_Join_none none 0 (.slice none 0 0) w).mono ?_
    rintro e w' ⟨rfl, rfl⟩
    exact ⟨⟨_, rfl, (own_lit w w.heap.size _ [] #[] rfl 0 rfl (Nat.le_refl _) (by simp [maxLen])).byt⟩, Ext.alloc _ _⟩
  have hcell : ∀ (i : Nat) (hi : i < m.length), w.cell? ⟨g, i, none⟩ = some m[i].2 := fun i hi => by
    have hsl : Sl w 1 (.slice (some ⟨g, 0, none⟩) m.length cap) m.length (m.map (·.2)) := Sl.of_owns h2
    obtain ⟨_, ao, c, e, _, _, _, h6⟩ := hsl
    cases e
    have := h6 _ rfl i m[i].2 (by rw [List.getElem?_map, List.getElem?_eq_getElem hi]; rfl)
    rwa [plain_add] at this
  match m, h2, h3, hne, hs, hl, hc1, hcell with
  | [], _, _, _, _, _, _, _ =>
    refine (Tryz.bytes_Join_none (some ⟨g, 0, none⟩) cap (.slice none 0 0) w).mono ?_
    rintro e w' ⟨rfl, rfl⟩
    exact ⟨⟨_, rfl, (own_lit w w.heap.size _ [] #[] rfl 0 rfl (Nat.le_refl _) (by simp [maxLen])).byt⟩, Ext.alloc _ _⟩
  | [p], h2, h3, hne, hs, hl, hc1, hcell =>
    have hp := h3 p (by simp)
    have hpn : p.1 ≠ [] := hne p.1 (by simp)
    have hpl : 0 < p.1.length := List.length_pos_iff.2 hpn
    obtain ⟨ao, c, e1, k1, k2, k3, k4⟩ := hp.byt.open
    obtain ⟨a, rfl⟩ := k3 (by omega)
    have hc0 := hcell 0 (by simp)
    rw [List.getElem_cons_zero, e1] at hc0
    have hs1 : p.1.length ≤ 140737488355328 := by simp at hs; omega
    refine (Tryz.bytes_Join_one g 0 cap a c p.1 (.slice none 0 0) w hc0 (fun i x hx => by
      obtain ⟨hi, rfl⟩ := List.getElem?_eq_some_iff.1 hx
      exact k4 a rfl i hi) hpl hs1).mono ?_
    rintro e w' ⟨u, rfl, hf, hb⟩
    exact ⟨⟨u, rfl, by simpa using fresh_byt hf⟩, hb⟩
  | p :: q :: r, h2, h3, hne, hs, hl, hc1, hcell =>
    have hP : Lib.PartsAt w ⟨g, 0, none⟩ ((p :: q :: r).map (·.2)) ((p :: q :: r).map (·.1)) := by
      refine ⟨by simp, fun i v hv => ?_, fun i v l hv hl => ?_⟩
      · rw [plain_add]
        rw [List.getElem?_map] at hv
        obtain ⟨z, hz, rfl⟩ := Option.map_eq_some_iff.1 hv
        obtain ⟨hi, rfl⟩ := List.getElem?_eq_some_iff.1 hz
        exact hcell i hi
      · rw [List.getElem?_map] at hv hl
        obtain ⟨z, hz, rfl⟩ := Option.map_eq_some_iff.1 hv
        obtain ⟨z2, hz2, rfl⟩ := Option.map_eq_some_iff.1 hl
        rw [hz] at hz2; cases hz2
        exact own_holds (h3 z (List.mem_of_getElem? hz))
    have hlen : (p :: q :: r).length ≤ 1048576 := by simpa using hl
    refine (Tryz.bytes_Join_many g 0 (p :: q :: r).length cap _ ((p :: q :: r).map (·.1)) (.slice none 0 0) [] w (by simp) (by simp) hP hc1 ⟨none, 0, rfl, fun _ => rfl, fun a ha => by cases ha⟩ (by omega) (by rw [lens_flat]; simp only [List.length_nil, Nat.zero_mul, Nat.add_zero]; omega)).mono ?_
    rintro e w' ⟨u, rfl, hf, hb⟩
    rw [join_flat] at hf
    exact ⟨⟨u, rfl, fresh_byt hf⟩, hb⟩
end Go.Proofs.YtinancnlangkjaaGreatDoor

