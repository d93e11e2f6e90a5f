/- The document's lane: Has, First, Put, Drop, Take. -/
import Derived.Test.YtlnghgalmhmegaaLanI
set_option linter.unusedSimpArgs false
set_option linter.unusedVariables false
namespace Go.Proofs.Ytlnghgalmhmegaa
open Go Go.RowKit Go.Tum Go.ChangeMaps Go.Shelf

/-- The document's lane: a block with a slice that nothing else reaches. -/
def RL (b : Nat) (w : World) (r : Nat) (I : List UInt64) : Prop := ∃ v, w.heap[r]? = some (.cells #[v] 30 (0, 0)) ∧ OwV vU w b 23 v I
theorem RL.lt {b : Nat} {w : World} {r : Nat} {I : List UInt64} (h : RL b w r I) : r < w.heap.size := by
  obtain ⟨v, h, -⟩ := h
  exact (Array.getElem?_eq_some_iff.1 h).1
theorem RL.ext {b : Nat} {w w' : World} {r : Nat} {I : List UInt64} (h : RL b w r I) (k : Ext w w') : RL b w' r I := by
  obtain ⟨v, h, o⟩ := h
  exact ⟨v, k.obj h, o.ext k⟩
theorem Lane.notref {b : Nat} {w : World} {p m r : Nat} {l : List (UInt64 × Nat)} {I : List UInt64} (h : Lane w p m l) (k : RL b w r I) : r ∉ Bl p m l := by
  obtain ⟨v, k, -⟩ := k
  intro hx
  simp only [List.mem_cons, List.mem_map] at hx
  rcases hx with rfl | rfl | ⟨q, hq, rfl⟩
  · rw [h.hd] at k; simp at k
  · obtain ⟨es, c, h2⟩ := h.mp.block
    rw [h2] at k; cases k
  · obtain ⟨a, b, h1⟩ := h.ch.mem q hq
    rw [h1] at k; simp at k
/-- An act on a lane leaves the document's. -/
theorem RL.lane {b : Nat} {w w' : World} {p m r : Nat} {l : List (UInt64 × Nat)} {I : List UInt64} (k : RL b w r I) (h : Lane w p m l) (f : Fr (Bl p m l) w w') : RL b w' r I := by
  have hn := h.notref k
  have hr := k.lt
  obtain ⟨v, k, o⟩ := k
  exact ⟨v, (f.block r hr hn).trans k, owv_lane o h f⟩

set_option maxRecDepth 100000 in
set_option maxHeartbeats 1000000 in
theorem rhas_any (b : Nat) (w : World) (r : Nat) (I : List UInt64) (x : UInt64) (h : RL b w r I) :
    Calls Try.prog 19 #[pv r, vU x] w fun e w' => e = .returned (.bool (decide (x ∈ I))) ∧ w = w' := by
  obtain ⟨v, hr, ho⟩ := h
  obtain ⟨c0, -⟩ := box1 hr
  obtain ⟨ao, cap, rfl, hle, hm, hnn, hcell⟩ := ho.vec.open
  have HC := hid hcell
  have HNN := hid hnn
  clear hr ho hcell hnn
  go_enter Try.func19, Try.ntmps19
  go_wp2
  go_loopw [5] (fun i wr => ∃ k : Nat, k ≤ I.length ∧ i = .int .i64 k ∧ Hid (x ∉ I.take k) ∧ wr = w) (fun i _ => I.length - (intOf i).toNat)
  case atStart => exact ⟨0, by omega, rfl, hid (by simp), rfl⟩
  case round =>
    obtain ⟨k, hk, rfl, HE, rfl⟩ := hrel
    by_cases hlt : k < I.length
    · obtain ⟨a, rfl⟩ := HNN.out (by omega)
      have hc := HC.out a rfl k hlt
      have hi1 : decide ((k : Int) < I.length) = true := by simp; omega
      have hi2 : decide (k < I.length) = true := by simp; omega
      obtain ⟨y, hy⟩ : ∃ y, I[k] = y := ⟨_, rfl⟩
      have HY := hid hy
      rw [hy] at hc
      clear hy
      by_cases he : y = x
      · have hne : ((y.toNat : Int) == (x.toNat : Int)) = true := by simp [he]
        have HX := hid he
        clear he
        go_wp2
        go_ret
        refine ⟨?_, rfl⟩
        have : decide (x ∈ I) = true := by
          rw [decide_eq_true_eq, ← HX.out, ← HY.out]
          exact List.getElem_mem hlt
        rw [this]; rfl
      · have hne : ((y.toNat : Int) == (x.toNat : Int)) = false := by
          simp; intro e; exact he (UInt64.toNat_inj.1 (by omega))
        have HX := hid he
        clear he
        go_wp2
        go_roundw
        case rel => exact ⟨k + 1, by omega, by go_num, hid (by
          rw [List.take_succ_eq_append_getElem hlt, HY.out, List.mem_append]
          rintro (h | h)
          · exact HE.out h
          · simp at h; exact HX.out h.symm), trivial⟩
        case measure => simp [intOf]; omega
    · obtain rfl : k = I.length := by omega
      have hi1 : decide ((I.length : Int) < I.length) = false := by simp
      go_wp2
      go_ret
      refine ⟨?_, rfl⟩
      have : decide (x ∈ I) = false := by
        have := HE.out
        rw [List.take_length] at this
        simpa using this
      rw [this]; rfl

set_option maxHeartbeats 1000000 in
theorem rfirst_any (b : Nat) (w : World) (r : Nat) (I : List UInt64) (h : RL b w r I) :
    Calls Try.prog 15 #[pv r] w fun e w' => e = .returned (firstI I) ∧ w = w' := by
  obtain ⟨v, hr, ho⟩ := h
  obtain ⟨c0, -⟩ := box1 hr
  obtain ⟨ao, cap, rfl, hle, hm, hnn, hcell⟩ := ho.vec.open
  clear hr ho
  cases I with
  | nil =>
    go_enter Try.func15, Try.ntmps15
    go_wp2
    go_returns
    exact ⟨rfl, rfl⟩
  | cons x I =>
    obtain ⟨a, rfl⟩ := hnn (by simp at hle; omega)
    have hc := hcell a rfl 0 (by simp)
    simp only [List.getElem_cons_zero, Addr.add, Nat.zero_eq, if_true] at hc
    have hi1 : (((x :: I).length : Int) == 0) = false := by simp; omega
    have hi2 : 0 < (x :: I).length := by simp
    obtain ⟨n, hn⟩ : ∃ n, (x :: I).length = n := ⟨_, rfl⟩
    rw [hn] at c0 hi1 hi2
    clear hcell hnn hle hn
    go_enter Try.func15, Try.ntmps15
    go_wp2
    go_returns
    exact ⟨rfl, rfl⟩

def RPutP (b : Nat) (w : World) (r : Nat) (I : List UInt64) (x : UInt64) (e : Ending) (w' : World) : Prop :=
  e = .returned (.bool (decide (x ∉ I))) ∧ RL b w' r (putL x I) ∧ Fr [r] w w'
set_option maxRecDepth 100000 in
set_option maxHeartbeats 1000000 in
theorem rput_any (b : Nat) (w : World) (r : Nat) (I : List UInt64) (x : UInt64) (h : RL b w r I) (hb : b ≤ w.heap.size) (hl : I.length ≤ 1000000) :
    Calls Try.prog 9 #[pv r, vU x] w fun e w' => RPutP b w r I x e w' := by
  have HR := hid h
  by_cases hin : x ∈ I
  · go_enter Try.func9, Try.ntmps9
    go_wp2_with fail
    refine (rhas_any b _ r I x HR.out).mono ?_
    rintro e w1 ⟨rfl, rfl⟩
    rw [show decide (x ∈ I) = true by simpa using hin]
    go_wp2
    go_ret
    refine ⟨?_, ?_, Fr.refl _ _⟩
    · rw [show decide (x ∉ I) = false by simpa using hin]; rfl
    · unfold putL; rw [if_pos hin]; exact HR.out
  · obtain ⟨v, hr, ho⟩ := h
    have hrl := (Array.getElem?_eq_some_iff.1 hr).1
    have HRL := hid hrl
    have HB := hid hr
    obtain ⟨ao, cap, rfl⟩ := ho.shape
    have c0 : ∀ o : Obj, (w.alloc o).cell? ⟨r, 0, none⟩ = some (.slice ao I.length cap) := fun o => (Ext.alloc w o).cell (box1 hr).1
    have HV := hid ho.vec
    clear hr ho hrl
    go_enter Try.func9, Try.ntmps9
    go_wp2_with fail
    refine (rhas_any b _ r I x HR.out).mono ?_
    rintro e w1 ⟨rfl, rfl⟩
    rw [show decide (x ∈ I) = false by simpa using hin]
    go_wp2_with (first
      | (at_builtin; refine wpList_append_vec uv_one rfl (.tmp 9) (.tmp 13) 28 rfl w.heap.size 23 Try.underlying28 info64 rfl rfl (l1 := []) (owv_lit w w.heap.size 23 [] #[] rfl 0 rfl (Nat.le_refl _) (by decide)) rfl (HV.out.ext (Ext.alloc _ _)) I.length (by simp) (by omega) (by omega) (by simp) ?_; intro ao2 cap2 w2 hO2 hg2 hb2; have HO2 := hid hO2; have HE2 : Hid (Ext w w2) := hid (Below.trans (Ext.alloc _ _) hb2); clear hO2 hg2 hb2 c0)
      | (at_builtin; refine wpList_append_vec uv_one rfl (.tmp 14) (.tmp 16) 28 rfl w.heap.size 23 Try.underlying28 info64 rfl rfl (HO2.out.ext (Ext.alloc _ _)) rfl (Vec.one _ _ _ x rfl) (I.length + 1) (by simp) (by omega) (by omega) (Nat.le_trans HE2.out.size (by simp)) ?_; intro ao3 cap3 w3 hO3 hg3 hb3; have HO3 := hid hO3; have HE3 : Hid (Ext w w3) := hid (Below.trans (HE2.out.trans (Ext.alloc _ _)) hb3); clear hO3 hg3 hb3; obtain ⟨c1, f1⟩ := box1 (HE3.out.obj HB.out)))
    go_ret
    refine ⟨?_, ?_, (Ext.fr HE3.out).trans (fr_setCell _ _ _ (by simp))⟩
    · rw [show decide (x ∉ I) = true by simpa using hin]; rfl
    · unfold putL; rw [if_neg hin]
      have hO := HO3.out
      have hr := HRL.out
      refine ⟨_, box1_set _ (HE3.out.obj HB.out), ?_⟩
      have hO' : OwV vU w3 w.heap.size 23 (.slice ao3 (I.length + 1) cap3) (I ++ [x]) := by simpa using hO
      obtain ⟨g, rfl⟩ := hO'.addr (by omega)
      exact (hO'.setOther ⟨r, 0, none⟩ _ (by have := hO'.block; dsimp only; omega)).mono hb

theorem dropL_succ_eq {x : UInt64} {I : List UInt64} {k : Nat} (h : k < I.length) (e : I[k] = x) : dropL x (I.take (k + 1)) = dropL x (I.take k) := by
  unfold dropL
  rw [List.take_succ_eq_append_getElem h, List.filter_append]
  simp [e]
theorem dropL_succ_ne {x : UInt64} {I : List UInt64} {k : Nat} (h : k < I.length) (e : I[k] ≠ x) : dropL x (I.take (k + 1)) = dropL x (I.take k) ++ [I[k]] := by
  unfold dropL
  rw [List.take_succ_eq_append_getElem h, List.filter_append]
  simp [e]
def RDropP (b : Nat) (w : World) (r : Nat) (I : List UInt64) (x : UInt64) (e : Ending) (w' : World) : Prop :=
  e = .returned (.bool (decide (x ∈ I))) ∧ RL b w' r (dropL x I) ∧ Fr [r] w w'
set_option maxRecDepth 100000 in
set_option maxHeartbeats 1000000 in
theorem rdrop_any (b : Nat) (w : World) (r : Nat) (I : List UInt64) (x : UInt64) (h : RL b w r I) (hb : b ≤ w.heap.size) (hl : I.length ≤ 1000000) :
    Calls Try.prog 13 #[pv r, vU x] w fun e w' => RDropP b w r I x e w' := by
  have HR := hid h
  obtain ⟨v, hr, ho⟩ := h
  have HRL := hid (Array.getElem?_eq_some_iff.1 hr).1
  have HB := hid hr
  obtain ⟨vo, vc, rfl, hle, hm, hnn, hcell⟩ := ho.vec.open
  have HC := hid hcell
  have HNN := hid hnn
  obtain ⟨bb, hbb⟩ : ∃ bb, decide (x ∈ I) = bb := ⟨_, rfl⟩
  have HBB := hid hbb
  clear hr ho hcell hnn hbb
  go_enter Try.func13, Try.ntmps13
  go_wp2_with fail
  refine (rhas_any b _ r I x (HR.out.ext (Ext.alloc _ _))).mono ?_
  rintro e w1 ⟨rfl, rfl⟩
  rw [HBB.out]
  have HO0 : Hid (OwV vU (w.alloc (.cells #[] 23)) w.heap.size 23 (.slice (some ⟨w.heap.size, 0, none⟩) 0 0) []) := hid (owv_lit w w.heap.size 23 [] #[] rfl 0 rfl (Nat.le_refl _) (by decide))
  have HE0 : Hid (Ext w (w.alloc (.cells #[] 23))) := hid (Ext.alloc _ _)
  go_wp2
  go_loopw [5, 7] (fun o i wr => ∃ (k : Nat) (bo : Option Addr) (bc : Nat), k ≤ I.length ∧ i = .int .i64 k ∧ o = .slice bo (dropL x (I.take k)).length bc ∧
      Hid (OwV vU wr w.heap.size 23 (.slice bo (dropL x (I.take k)).length bc) (dropL x (I.take k))) ∧ Hid (Ext w wr)) (fun _ i _ => I.length - (intOf i).toNat)
  case atStart => exact ⟨0, _, _, by omega, rfl, rfl, HO0, HE0⟩
  case round =>
    obtain ⟨k, bo, bc, hk, rfl, rfl, HO, HE⟩ := hrel
    obtain ⟨c0, -⟩ := box1 (HE.out.obj HB.out)
    by_cases hlt : k < I.length
    · obtain ⟨a, rfl⟩ := HNN.out (by omega)
      have hc := HE.out.cell (HC.out a rfl k hlt)
      have hi1 : decide ((k : Int) < I.length) = true := by simp; omega
      have hi2 : k < I.length := hlt
      have hlen := dropL_len x (I.take k)
      rw [List.length_take] at hlen
      have HN : Hid ((dropL x (I.take k)).length ≤ k) := hid (by omega)
      clear hlen
      by_cases he : I[k] = x
      · have hne : ((I[k].toNat : Int) != (x.toNat : Int)) = false := by simp [he]
        have HS := hid (dropL_succ_eq hlt he)
        clear he
        go_wp2
        go_roundw
        case rel => exact ⟨k + 1, bo, bc, by omega, by go_num, by rw [HS.out], by rw [HS.out]; exact HO, HE⟩
        case measure => simp [intOf]; omega
      · have hne : ((I[k].toNat : Int) != (x.toNat : Int)) = true := by
          simp; intro e; exact he (UInt64.toNat_inj.1 (by omega))
        have HS := hid (dropL_succ_ne hlt he)
        clear he
        obtain ⟨J, hJ⟩ : ∃ J, dropL x (I.take k) = J := ⟨_, rfl⟩
        rw [hJ] at HO HN HS
        rw [hJ]
        clear hJ
        obtain ⟨y, hy⟩ : ∃ y, I[k] = y := ⟨_, rfl⟩
        rw [hy] at hc hne HS
        clear hy
        go_wp2_with (at_builtin; refine wpList_append_vec uv_one rfl (.tmp 30) (.tmp 38) 28 rfl w.heap.size 23 Try.underlying28 info64 rfl rfl (HO.out.ext (Ext.alloc _ _)) rfl (Vec.one _ _ _ y rfl) (J.length + 1) (by simp) (by have := HN.out; omega) (by have := HN.out; omega) (Nat.le_trans HE.out.size (by simp)) ?_; intro ao3 cap3 w3 hO3 hg3 hb3; have HO3 := hid hO3; have HE3 : Hid (Ext w w3) := hid (Below.trans (HE.out.trans (Ext.alloc _ _)) hb3); clear hO3 hg3 hb3)
        go_roundw
        case rel => exact ⟨k + 1, ao3, cap3, by omega, by go_num, by rw [HS.out]; simp, by rw [HS.out]; simpa using HO3, HE3⟩
        case measure => simp [intOf]; omega
    · obtain rfl : k = I.length := by omega
      have hi1 : decide ((I.length : Int) < I.length) = false := by simp
      obtain ⟨-, f0⟩ := box1 (HE.out.obj HB.out)
      rw [List.take_length] at HO
      rw [List.take_length]
      obtain ⟨J, hJ⟩ : ∃ J, dropL x I = J := ⟨_, rfl⟩
      have HJ := hid hJ
      rw [hJ] at HO
      rw [hJ]
      clear hJ
      go_wp2
      go_ret
      refine ⟨by rw [HBB.out]; rfl, ?_, (Ext.fr HE.out).trans (fr_setCell _ _ _ (by simp))⟩
      rw [HJ.out]
      have hO := HO.out
      have hr := HRL.out
      refine ⟨_, box1_set _ (HE.out.obj HB.out), ?_⟩
      by_cases h0 : 0 < J.length
      · obtain ⟨g, rfl⟩ := hO.addr h0
        exact (hO.setOther ⟨r, 0, none⟩ _ (by have := hO.block; dsimp only; omega)).mono hb
      · rcases hO.2 with ⟨e1, e2⟩ | ⟨g, cap', cur, e1, -⟩
        · exact ⟨hO.1, .inl ⟨e1, e2⟩⟩
        · cases e1
          exact (hO.setOther ⟨r, 0, none⟩ _ (by have := hO.block; dsimp only; omega)).mono hb
def RTakeP (b : Nat) (w : World) (r : Nat) (I : List UInt64) (e : Ending) (w' : World) : Prop :=
  e = .returned (firstI I) ∧ RL b w' r I.tail ∧ Fr [r] w w'
theorem dropL_head {x : UInt64} {I : List UInt64} (h : (x :: I).Nodup) : dropL x (x :: I) = I := by
  have h2 := List.nodup_cons.1 h
  unfold dropL
  rw [List.filter_cons]
  simp only [bne_self_eq_false, Bool.false_eq_true, if_false]
  refine List.filter_eq_self.2 fun q hq => ?_
  have : q ≠ x := fun e => h2.1 (by rw [← e]; exact hq)
  simpa using this
set_option maxHeartbeats 1000000 in
theorem rtake_any (b : Nat) (w : World) (r : Nat) (I : List UInt64) (h : RL b w r I) (hb : b ≤ w.heap.size) (hl : I.length ≤ 1000000) (hn : I.Nodup) :
    Calls Try.prog 11 #[pv r] w fun e w' => RTakeP b w r I e w' := by
  cases I with
  | nil =>
    go_enter Try.func11, Try.ntmps11
    go_wp2_with fail
    refine (rfirst_any b _ r _ h).mono ?_
    rintro e w1 ⟨rfl, rfl⟩
    rw [show firstI [] = .tuple #[.int .u64 0, .bool false] from rfl]
    go_wp2
    go_returns
    exact ⟨rfl, h, Fr.refl _ _⟩
  | cons x J =>
    go_enter Try.func11, Try.ntmps11
    go_wp2_with fail
    refine (rfirst_any b _ r _ h).mono ?_
    rintro e w1 ⟨rfl, rfl⟩
    rw [show firstI (x :: J) = .tuple #[vU x, .bool true] from rfl]
    go_wp2_with fail
    refine (rdrop_any b _ r _ x h hb hl).mono ?_
    rintro e w2 ⟨he, hr2, F2⟩
    generalize (decide (x ∈ x :: J)) = bb at he
    subst he
    rw [dropL_head hn] at hr2
    go_wp2
    go_returns
    exact ⟨rfl, hr2, F2⟩
end Go.Proofs.Ytlnghgalmhmegaa
