/- nameRight. -/
import Derived.Test.YtijpokajhjhllaaGreatDoorDskA
import Derived.Lib.MapLaws
import Derived.Lib.TrimAscii
import Derived.Lib.OthersKept
import Derived.Laws.RangeString
import Derived.Laws.RangeAny
set_option linter.unusedSimpArgs false
set_option linter.unusedVariables false
namespace Go.Proofs.YtijpokajhjhllaaGreatDoor
open Go Go.RowKit Go.Tum Go.ChangeMaps

theorem dec_at (l : List UInt8) (pos : Nat) : Utf8.decode (str l) pos = Lib.decodeL (l.drop pos) := by
  have := Lib.decodeL_drop (str l) pos
  rw [str_data] at this
  exact this.symm
def okc (c : UInt8) : Bool := decide (97 ≤ c.toNat ∧ c.toNat ≤ 122 ∨ 48 ≤ c.toNat ∧ c.toNat ≤ 57 ∨ c.toNat = 46)
theorem dec_high (b : UInt8) (t : List UInt8) (h : 128 ≤ b.toNat) : 128 ≤ (Lib.decodeL (b :: t)).1 := by
  rw [Lib.decodeL_N]
  unfold Lib.decodeN
  simp only [List.getD_cons_zero]
  repeat' split
  all_goals (simp only; omega)
def okR (r : Nat) : Bool := decide (97 ≤ r ∧ r ≤ 122 ∨ 48 ≤ r ∧ r ≤ 57 ∨ r = 46)
theorem okR_cases {r : Nat} (h : okR r = true) : (97 ≤ r ∧ r ≤ 122) ∨ (r < 97 ∧ 48 ≤ r ∧ r ≤ 57) ∨ (r < 97 ∧ r < 48 ∧ r = 46) := by
  unfold okR at h
  simp at h
  omega
theorem okR_not {r : Nat} (h : okR r = false) : (122 < r) ∨ (r < 97 ∧ 57 < r) ∨ (r < 48 ∧ r ≠ 46) := by
  unfold okR at h
  simp at h
  omega
/-- One step of the text. -/
theorem okc_step {l : List UInt8} (hne : l ≠ []) : (okR (Lib.decodeL l).1 = true ∧ (Lib.decodeL l).2 = 1 ∧ l.all okc = (l.drop 1).all okc) ∨ (okR (Lib.decodeL l).1 = false ∧ l.all okc = false) := by
  cases l with
  | nil => exact absurd rfl hne
  | cons b t =>
    by_cases h : b.toNat < 128
    · rw [Lib.decodeL_ascii b t h]
      have e : okR b.toNat = okc b := rfl
      cases hk : okc b with
      | true => left; exact ⟨by simpa [e] using hk, rfl, by simp [hk]⟩
      | false => right; exact ⟨by simpa [e] using hk, by simp [hk]⟩
    · right
      have h1 := dec_high b t (by omega)
      constructor
      · unfold okR; simp; omega
      · have : okc b = false := by unfold okc; simp; omega
        simp [this]
theorem drop_ne {l : List UInt8} {pos : Nat} (h : pos < l.length) : l.drop pos ≠ [] := by
  intro h2
  have := congrArg List.length h2
  rw [List.length_drop, List.length_nil] at this
  omega
theorem nmOk_eq (n : Nm) : nmOk n = (decide (1 ≤ n.length) && decide (n.length ≤ 12) && n.all okc) := rfl
set_option maxHeartbeats 1000000 in
theorem dnm_any (l : Nm) (w : World) (hl : l.length ≤ maxLen) :
    Calls Tryz.prog 57 #[vN l] w fun e w' => e = .returned (.bool (nmOk l)) ∧ Ext w w' := by
  by_cases h1 : l.length < 1
  · have hsz := str_size l
    have hd : decide (((str l).size : Int) < 1) = true := by rw [decide_eq_true_eq]; omega
    have H : Hid (nmOk l = false) := hid (by rw [nmOk_eq]; have : decide (1 ≤ l.length) = false := by rw [decide_eq_false_iff_not]; omega
                                             rw [this]; rfl)
    clear h1 hl hsz
    go_enter Tryz.func57, Tryz.ntmps57
    go_wp2
    go_ret
    exact ⟨by rw [H.out]; rfl, Ext.refl _⟩
  have hsz := str_size l
  have hd : decide (((str l).size : Int) < 1) = false := by rw [decide_eq_false_iff_not]; omega
  by_cases h2 : 12 < l.length
  · have hd2 : decide (12 < ((str l).size : Int)) = true := by rw [decide_eq_true_eq]; omega
    have H : Hid (nmOk l = false) := hid (by rw [nmOk_eq]; have : decide (l.length ≤ 12) = false := by rw [decide_eq_false_iff_not]; omega
                                             rw [this]; simp)
    clear h1 h2 hl hsz
    go_enter Tryz.func57, Tryz.ntmps57
    go_wp2
    go_ret
    exact ⟨by rw [H.out]; rfl, Ext.refl _⟩
  have hd2 : decide (12 < ((str l).size : Int)) = false := by rw [decide_eq_false_iff_not]; omega
  have H : Hid (nmOk l = l.all okc) := hid (by
    rw [nmOk_eq]
    have e1 : decide (1 ≤ l.length) = true := by rw [decide_eq_true_eq]; omega
    have e2 : decide (l.length ≤ 12) = true := by rw [decide_eq_true_eq]; omega
    rw [e1, e2]; simp)
  have hl12 : l.length ≤ 12 := by omega
  clear h1 h2 hl hsz
  go_enter Tryz.func57, Tryz.ntmps57
  go_wp2
  clear hd hd2
  go_loopw [] (fun wr => ∃ pos : Nat, pos ≤ l.length ∧ Hid (wr.heap[w.heap.size]? = some (.stringIter (str l) pos)) ∧ Hid (Ext w wr) ∧ Hid (l.all okc = (l.drop pos).all okc)) (fun wr => match wr.heap[w.heap.size]? with | some (.stringIter _ q) => l.length - q | _ => 0)
  case atStart => exact ⟨0, by omega, World.iter_heap w (str l) 0, Ext.alloc _ _, hid rfl⟩
  case round =>
    obtain ⟨pos, hpos, HIT, HE, HR⟩ := hrel
    by_cases hlt : pos < l.length
    · have hne := drop_ne hlt
      have hst := okc_step hne
      have hle := Lib.decodeL_le _ hne
      have hnx : ∀ ty, (Instr.next (.pointer (some ⟨w.heap.size, 0, none⟩)) true ty).run Tryz.prog wr = _ := fun ty => Lib.run_next_any_at wr w.heap.size (str l) pos ty HIT.out (by rw [str_size]; exact hlt)
      obtain ⟨R, K, hRK⟩ : ∃ R K, Lib.decodeL (l.drop pos) = (R, K) := ⟨_, _, rfl⟩
      rw [dec_at] at hnx
      rw [hRK] at hnx hst hle
      simp only [List.drop_drop, List.length_drop] at hnx hst hle
      have hit2 := Lib.iterAt_heap wr w.heap.size (str l) pos (pos + K) HIT.out
      have hE2 := Lib.below_iterAt HE.out (k := w.heap.size) (Nat.le_refl _) (str l) (pos + K)
      obtain ⟨W2, hW⟩ : ∃ W2, wr.iterAt w.heap.size (str l) (pos + K) = W2 := ⟨_, rfl⟩
      rw [hW] at hnx hit2 hE2
      have HIT2 := hid hit2
      have HE2 := hid hE2
      clear hit2 hE2 hW hRK hne
      rcases hst with ⟨hok, hk1, hall⟩ | ⟨hok, hall⟩
      · subst hk1
        have HA := hid hall
        have HIT1 := HIT
        clear hall HIT
        rcases okR_cases hok with ⟨b1, b2⟩ | ⟨b1, b2, b3⟩ | ⟨b1, b2, b3⟩
        · have e1 : decide (97 ≤ (R : Int)) = true := by simp; omega
          have e2 : decide ((R : Int) ≤ 122) = true := by simp; omega
          clear b1 b2 hok
          go_wp2
          go_roundw
          case rel => exact ⟨pos + 1, by omega, HIT2, HE2, hid (by rw [HR.out]; exact HA.out)⟩
          case measure => rw [HIT2.out, HIT1.out]; simp only; omega
        · have e1 : decide (97 ≤ (R : Int)) = false := by simp; omega
          have e2 : decide (48 ≤ (R : Int)) = true := by simp; omega
          have e3 : decide ((R : Int) ≤ 57) = true := by simp; omega
          clear b1 b2 b3 hok
          go_wp2
          go_roundw
          case rel => exact ⟨pos + 1, by omega, HIT2, HE2, hid (by rw [HR.out]; exact HA.out)⟩
          case measure => rw [HIT2.out, HIT1.out]; simp only; omega
        · have e1 : decide (97 ≤ (R : Int)) = false := by simp; omega
          have e2 : decide (48 ≤ (R : Int)) = false := by simp; omega
          have e3 : ((R : Int) == 46) = true := by simp; omega
          clear b1 b2 b3 hok
          go_wp2
          go_roundw
          case rel => exact ⟨pos + 1, by omega, HIT2, HE2, hid (by rw [HR.out]; exact HA.out)⟩
          case measure => rw [HIT2.out, HIT1.out]; simp only; omega
      · have HA : Hid (nmOk l = false) := hid (by rw [H.out, HR.out]; exact hall)
        clear hall
        rcases okR_not hok with b1 | ⟨b1, b2⟩ | ⟨b1, b2⟩
        · have e1 : decide (97 ≤ (R : Int)) = true := by simp; omega
          have e2 : decide ((R : Int) ≤ 122) = false := by simp; omega
          have e3 : decide (48 ≤ (R : Int)) = true := by simp; omega
          have e4 : decide ((R : Int) ≤ 57) = false := by simp; omega
          have e5 : ((R : Int) == 46) = false := by simp; omega
          clear b1 hok
          go_wp2
          go_ret
          exact ⟨by rw [HA.out]; rfl, HE2.out⟩
        · have e1 : decide (97 ≤ (R : Int)) = false := by simp; omega
          have e3 : decide (48 ≤ (R : Int)) = true := by simp; omega
          have e4 : decide ((R : Int) ≤ 57) = false := by simp; omega
          have e5 : ((R : Int) == 46) = false := by simp; omega
          clear b1 b2 hok
          go_wp2
          go_ret
          exact ⟨by rw [HA.out]; rfl, HE2.out⟩
        · have e1 : decide (97 ≤ (R : Int)) = false := by simp; omega
          have e3 : decide (48 ≤ (R : Int)) = false := by simp; omega
          have e5 : ((R : Int) == 46) = false := by simp; omega
          clear b1 b2 hok
          go_wp2
          go_ret
          exact ⟨by rw [HA.out]; rfl, HE2.out⟩
    · have hnx : ∀ ty, (Instr.next (.pointer (some ⟨w.heap.size, 0, none⟩)) true ty).run Tryz.prog wr = _ := fun ty => Lib.run_next_end_at wr w.heap.size (str l) pos ty HIT.out (by rw [str_size]; exact hlt)
      have HR2 : Hid (nmOk l = true) := hid (by rw [H.out, HR.out, List.drop_of_length_le (by omega)]; rfl)
      go_wp2
      go_ret
      exact ⟨by rw [HR2.out]; rfl, HE.out⟩
end Go.Proofs.YtijpokajhjhllaaGreatDoor
