/- Create: what is against it. -/
import Derived.Test.YtekjflndblgegaaDoorDskD
set_option linter.unusedSimpArgs false
set_option linter.unusedVariables false
namespace Go.Proofs.YtekjflndblgegaaDoor
open Go Go.RowKit Go.Tum Go.ChangeMaps
open Go.ParB (upd Lof)
open Go.ParE (putS slotsR slots Closed)

def Bx (w : World) (b : Nat) (v : Value) (T : TypeId) : Prop := w.heap[b]? = some (.cells #[v] T (0, 0))
theorem Bx.ext {w w' : World} {b : Nat} {v : Value} {T : TypeId} (h : Bx w b v T) (k : Ext w w') : Bx w' b v T := k.obj h
theorem Bx.cell {w : World} {b : Nat} {v : Value} {T : TypeId} (h : Bx w b v T) : w.cell? ⟨b, 0, none⟩ = some v := (lk1 h).1
theorem Bx.new (w : World) (v : Value) (T : TypeId) : Bx (w.alloc (.cells #[v] T (0, 0))) w.heap.size v T := heap_alloc_new _ _
theorem PM.ext {w w' : World} {m : Nat} {l : Dir} (h : PM w m l) (k : Ext w w') : PM w' m l := h.fr (S := []) (Ext.fr k) (by simp)
abbrev bp (b : Nat) : Value := .pointer (some ⟨b, 0, none⟩)
theorem look_fact {B : Nat} {w : World} {p : Nat} {x : DX} {s : PS} (h : Dk B w p x s) (n : Nm) (hk : n.length ≤ maxLen) : ∀ j, (Instr.lookup 49 (.map (some x.md)) (vN n) false).run Tryd.prog (w.drewN j) = .ok (ptr ((look s.dir n).map x.bk)) (w.drewN j) := by
  intro j
  have := (h.dr.ext (Ext.drewN w j)).look n hk
  rwa [hb_look] at this
theorem enter47 (args : Array Value) (w : World) : Sem.run Tryd.prog (callFunc 22 args) w = .ok (.enter 22 args) w := enter_of Tryd.func22 (by kernel_rfl) (by kernel_rfl) args w
theorem enter49 (args : Array Value) (w : World) : Sem.run Tryd.prog (callFunc 24 args) w = .ok (.enter 24 args) w := enter_of Tryd.func24 (by kernel_rfl) (by kernel_rfl) args w
set_option maxHeartbeats 1000000 in
theorem cre1_any {B : Nat} {w : World} {p : Nat} {x : DX} {s : PS} (n : Nm) (hk : n.length ≤ maxLen) (h : Dk B w p x s) (bd bn : Nat) (hd : Bx w bd (pv p) 35) (hn : Bx w bn (vN n) 9) :
    Calls Tryd.prog 22 #[bp bn, bp bd] w fun e w' => e = .returned (.int .i64 (creE s n : Nat)) ∧ Ext w w' := by
  have H := hid h
  have HD := hid hd
  have HN := hid hn
  have cn := hn.cell
  clear h hd hn
  go_enter Tryd.func22, Tryd.ntmps22
  go_wp2_with fail
  refine (dnm_any n w hk).mono ?_
  rintro e w1 ⟨rfl, E1⟩
  have H1 := hid (H.out.ext E1)
  have HE1 := hid E1
  have cd := (HD.out.ext E1).cell
  have cn1 := (HN.out.ext E1).cell
  clear E1 cn
  cases hok : nmOk n with
  | false =>
    have HC : Hid (creE s n = 1) := hid (by unfold creE; rw [if_pos hok])
    clear hok
    go_wp2
    go_ret
    rw [HC.out]
    exact ⟨rfl, HE1.out⟩
  | true =>
    obtain ⟨⟨-, d1, -⟩, -⟩ := lk6 H1.out.hd
    have hlk := look_fact H1.out n hk
    cases hf : look s.dir n with
    | some f =>
      have HC : Hid (creE s n = 6) := hid (by unfold creE; rw [if_neg (by rw [hok]; simp), hf]; rfl)
      rw [hf] at hlk
      simp only [Option.map_some, ptr] at hlk
      clear hf hok
      generalize x.bk f = b at *
      go_wp2_with fail
      go_quiet (fail)
      clear hlk d1
      go_wp2
      go_ret
      rw [HC.out]
      exact ⟨rfl, HE1.out.trans (Ext.drewN _ _)⟩
    | none =>
      rw [hf] at hlk
      simp only [Option.map_none, ptr] at hlk
      have HF := hid hf
      have HOK := hid hok
      clear hf hok
      go_wp2_with fail
      go_quiet (fail)
      clear hlk d1 cd cn1
      obtain ⟨w2, hw2⟩ : ∃ w2, w1.drewN nq = w2 := ⟨_, rfl⟩
      have E2 : Ext w1 w2 := by rw [← hw2]; exact Ext.drewN _ _
      rw [hw2]
      clear hw2
      have H2 := H1.out.ext E2
      obtain ⟨⟨-, d1, -⟩, -⟩ := lk6 H2.hd
      have cd := (HD.out.ext (HE1.out.trans E2)).cell
      have hln := H2.dr.len
      rw [hb_len] at hln
      have HE2 := hid (HE1.out.trans E2)
      clear E2 H2
      by_cases h60 : 60 ≤ s.dir.length
      · have g : decide ((s.dir.length : Int) ≥ 60) = true := by rw [decide_eq_true_eq]; omega
        have HC : Hid (creE s n = 4) := hid (by unfold creE; rw [if_neg (by rw [HOK.out]; simp), HF.out, if_pos h60]; rfl)
        clear h60
        go_wp2
        go_ret
        rw [HC.out]
        exact ⟨rfl, HE2.out⟩
      · have g : decide ((s.dir.length : Int) ≥ 60) = false := by rw [decide_eq_false_iff_not]; omega
        have HC : Hid (creE s n = 0) := hid (by unfold creE; rw [if_neg (by rw [HOK.out]; simp), HF.out, if_neg h60]; rfl)
        clear h60
        go_wp2
        go_ret
        rw [HC.out]
        exact ⟨rfl, HE2.out⟩
end Go.Proofs.YtekjflndblgegaaDoor
