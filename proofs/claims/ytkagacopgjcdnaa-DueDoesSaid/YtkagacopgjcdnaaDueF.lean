/- Package due: the tree's drop. -/
import Derived.Test.YtkagacopgjcdnaaDueE
set_option linter.unusedSimpArgs false
set_option linter.unusedVariables false
namespace Go.Proofs.Ytkagacopgjcdnaa
open Go Go.RowKit Go.Tum Go.ChangeMaps Go.Tum.Hp

theorem owv_take {f : UInt64 → Value} {w : World} {b e g n cap : Nat} {l : List UInt64} (h : OwV f w b e (.slice (some ⟨g, 0, none⟩) n cap) l) (k : Nat) (hk : k ≤ l.length) : OwV f w b e (.slice (some ⟨g, 0, none⟩) k cap) (l.take k) := by
  have hn := h.len
  subst hn
  have hl : (l.take k).length = k := by simp; omega
  unfold OwV
  rw [hl]
  refine ⟨by rw [List.length_map, hl]; omega, ?_⟩
  rcases h.2 with ⟨e1, _⟩ | ⟨g', cap', cur, hv, hb, hgg, h1, h2, h3, h4⟩
  · cases e1
  · cases hv
    refine .inr ⟨g, cap, cur, rfl, hb, hgg, by omega, h2, h3, ?_⟩
    rw [List.map_take, ← h4, List.take_take]
    congr 1
    omega
/-- x is at i: it is swapped with the last one, which is left out. -/
def cutL (row : List UInt64) (i : Nat) (hi : i < row.length) : List UInt64 := (swapL row i (row.length - 1) hi (by omega)).take (row.length - 1)
theorem cut_len {row : List UInt64} {i : Nat} (hi : i < row.length) : (cutL row i hi).length = row.length - 1 := by unfold cutL; simp [swap_len]
theorem cut_split {row : List UInt64} {i : Nat} (hi : i < row.length) : swapL row i (row.length - 1) hi (by omega) = cutL row i hi ++ [row[i]] := by
  have h := List.take_append_drop (row.length - 1) (swapL row i (row.length - 1) hi (by omega))
  have h2 : (swapL row i (row.length - 1) hi (by omega)).drop (row.length - 1) = [row[i]] := by
    rw [List.drop_eq_getElem_cons (by rw [swap_len]; omega), swap_j hi (by omega), List.drop_eq_nil_of_le (by rw [swap_len]; omega)]
  rw [h2] at h
  exact h.symm
theorem cut_perm {row : List UInt64} {i : Nat} (hi : i < row.length) : (row[i] :: cutL row i hi).Perm row := by
  refine List.Perm.trans ?_ (swap_perm hi (by omega : row.length - 1 < row.length))
  rw [cut_split hi]
  exact (List.perm_append_singleton _ _).symm
theorem cut_at {row : List UInt64} {i k : Nat} (hi : i < row.length) (hk : k < row.length - 1) : (cutL row i hi)[k]'(by rw [cut_len]; exact hk) = if k = i then row[row.length - 1] else row[k] := by
  unfold cutL
  rw [List.getElem_take]
  split
  · rename_i e; subst e; exact swap_i hi (by omega)
  · rename_i e; exact swap_k hi (by omega) (by omega) e (by omega)
theorem plF_cut {row : List UInt64} {i : Nat} (hi : i < row.length) (h : row.Nodup) (y : UInt64) : delF (plF (swapL row i (row.length - 1) hi (by omega))) row[i] y = plF (cutL row i hi) y := by
  have hn := swap_nd hi (by omega : row.length - 1 < row.length) h
  have hsp := cut_split hi
  have hni : row[i] ∉ cutL row i hi := by
    rw [hsp, List.nodup_append] at hn
    intro hm
    exact hn.2.2 _ hm _ (by simp) rfl
  unfold delF
  by_cases hy : y = row[i]
  · rw [if_pos hy]; unfold plF; rw [if_neg (by rw [hy]; exact hni)]
  · rw [if_neg hy, hsp]
    have := plF_snoc hni y
    rw [← this]
    unfold setF
    rw [if_neg hy]
theorem rowK_cut {At : UInt64 → Option Int} {row : List UInt64} {i k : Nat} (hi : i < row.length) (hk : k < row.length - 1) (hne : k ≠ i) : rowK At (cutL row i hi) k = rowK At row k := by
  rw [rowK_at (by rw [cut_len]; exact hk), rowK_at (by omega), cut_at hi hk, if_neg hne]
theorem ah_cut {At : UInt64 → Option Int} {row : List UInt64} {i : Nat} (hi : i < row.length) (h : HP (rowK At row) row.length) : AH (rowK At (cutL row i hi)) (row.length - 1) i := by
  refine ⟨fun j j0 jn ji jp => ?_, fun j j0 jn jp i0 => ?_⟩
  · have := par_lt j0
    rw [rowK_cut hi jn ji, rowK_cut hi (by omega) jp]
    exact h j j0 (by omega)
  · have := par_lt j0
    have := par_lt i0
    rw [rowK_cut hi jn (by omega), rowK_cut hi (by omega) (by omega)]
    have h1 := h j j0 (by omega)
    have h2 := h i i0 (by omega)
    rw [jp] at h1
    omega
theorem hp_cut {At : UInt64 → Option Int} {row : List UInt64} {i : Nat} (hi : i < row.length) (hl : ¬ i < row.length - 1) (h : HP (rowK At row) row.length) : HP (rowK At (cutL row i hi)) (row.length - 1) := by
  intro j j0 jn
  have := par_lt j0
  rw [rowK_cut hi jn (by omega), rowK_cut hi (by omega) (by omega)]
  exact h j j0 (by omega)

theorem sub_hb {p mt mp g n cap : Nat} : ∀ q ∈ [g, mp], q ∈ Hb p mt mp (.slice (some ⟨g, 0, none⟩) n cap) := by
  intro q hq
  simp at hq
  rcases hq with rfl | rfl <;> simp [Hb, Value.ownBlock]
theorem turn_same {w w' : World} {p mt mp g n cap n2 : Nat} (h : Fr (Hb p mt mp (.slice (some ⟨g, 0, none⟩) n cap)) w w') : Turn w w' p mt mp (.slice (some ⟨g, 0, none⟩) n cap) (.slice (some ⟨g, 0, none⟩) n2 cap) := ⟨h, fun q hq => .inl hq⟩
def TDropP (b : Nat) (w : World) (p mt mp nt : Nat) (At : UInt64 → Option Int) (row : List UInt64) (v : Value) (x : UInt64) (e : Ending) (w' : World) : Prop :=
  (∃ u, e = .returned u) ∧ ∃ row' v', (x :: row').Perm row ∧ Tr b w' p mt mp nt At row' v' ∧ HP (rowK At row') (row.length - 1) ∧ Below b w w' ∧ Turn w w' p mt mp v v'
set_option maxRecDepth 100000 in
set_option maxHeartbeats 1000000 in
theorem tdrop_any (b : Nat) (w : World) (p mt mp nt : Nat) (At : UInt64 → Option Int) (row : List UInt64) (v : Value) (i : Nat) (x : UInt64) (h : Tr b w p mt mp nt At row v) (hi : i < row.length) (hx : row[i] = x) (hp : HP (rowK At row) row.length) (hl : row.length ≤ 100000)
    (hb1 : b ≤ p) (hb2 : b ≤ mp) (hbw : b ≤ w.heap.size) :
    Calls Try.prog 24 #[.pointer (some ⟨p, 1, none⟩), vU x, FV p] w fun e w' => TDropP b w p mt mp nt At row v x e w' := by
  obtain ⟨ao, cap, rfl⟩ := h.ow.shape
  obtain ⟨g, hg⟩ := h.ow.addr (by omega)
  subst hg
  obtain ⟨-, a1, a2, -⟩ := lk3 h.hd
  have hlk : ∀ j, (Instr.lookup 45 (.map (some mp)) (vU x) false).run Try.prog (w.drewN j) = .ok (.int .i64 (i : Int)) (w.drewN j) := by
    intro j
    have := (h.pl.drewN j).look Try.underlying45 (Try.zeroValue3 _) x
    rw [plF_at h.nd hi hx] at this
    exact this
  have HT := hid h
  have HX := hid hx
  have HP0 := hid hp
  have hne0 : (row.length : Int) - 1 = ((row.length - 1 : Nat) : Int) := by omega
  have HN := hid hne0
  clear h hx hp hne0
  go_enter Try.func24, Try.ntmps24
  go_wp2_with fail
  go_quiet (fail)
  clear hlk a1 a2
  go_wp2_with fail
  rw [HN.out]
  have hMl : row.length - 1 < row.length := by omega
  refine (swap_any b (w.drewN nq) p mt mp nt At row g row.length cap i (row.length - 1) (HT.out.ext (Ext.drewN w nq)) hi hMl (by omega)).mono ?_
  rintro e w5 ⟨⟨u, rfl⟩, T5, F5⟩
  have HT5 := hid T5
  have hgb := HT.out.ow.block
  have HE5 : Hid (Below b w w5) := hid ((Below.mono (Ext.drewN w nq) hbw).trans (F5.below (by simp; omega) (by simpa using hbw)))
  have hcap := HT5.out.ow.vec.opens.2.1
  obtain ⟨-, c1, c2, -, f1, -⟩ := lk3 T5.hd
  have HL := hid (cut_len hi)
  have HPM := hid (cut_perm hi)
  have HPF := hid (plF_cut hi HT.out.nd)
  have HOC : Hid (OwV vU w5 b 23 (.slice (some ⟨g, 0, none⟩) (row.length - 1) cap) (cutL row i hi)) := hid (owv_take T5.ow (row.length - 1) (by rw [swap_len]; omega))
  have HAC := hid (ah_cut (At := At) hi HP0.out)
  have HHC := hid (fun hn => hp_cut (At := At) hi hn HP0.out)
  have HCT := hid (fun k hk => cut_at (k := k) hi hk)
  have HND := hid (swap_nd hi hMl HT.out.nd)
  have HSP := hid (cut_split hi)
  rw [HX.out] at HPM HPF HSP
  have HFA : Hid (Fr (Hb p mt mp (.slice (some ⟨g, 0, none⟩) row.length cap)) w w5) := hid ((Ext.fr (Ext.drewN w nq)).trans (F5.mono sub_hb))
  clear T5 F5
  obtain ⟨M, hM⟩ : ∃ M, row.length - 1 = M := ⟨_, rfl⟩
  have hMr : M < row.length := by omega
  have hMc : M ≤ cap := by omega
  have hMI : (M : Int) ≤ cap := by omega
  rw [hM]
  have HMM := hid hM
  clear hM
  obtain ⟨W6, hW6⟩ : ∃ W6, W6 = w5.setCell ⟨p, 1, none⟩ (.slice (some ⟨g, 0, none⟩) M cap) := ⟨_, rfl⟩
  have hp6 : W6.heap[p]? = some (heapO mt mp (.slice (some ⟨g, 0, none⟩) M cap)) := by
    rw [hW6]
    simpa using Go.Joins.block_setCell (i := 1) HT5.out.hd (.slice (some ⟨g, 0, none⟩) M cap)
  obtain ⟨g1, g2, g3, g4, g5⟩ := HT5.out.gne
  have ho6 : ∀ j, j ≠ p → W6.heap[j]? = w5.heap[j]? := fun j hj => by rw [hW6]; exact heap_setCell_other _ _ _ _ hj
  have hm6 : MI .i64 W6 mp (M + 1) (plF (swapL row i (row.length - 1) hi hMl)) := by
    have hlen : (swapL row i (row.length - 1) hi hMl).length = M + 1 := by rw [swap_len]; have := HMM.out; omega
    rw [← hlen]
    exact HT5.out.pl.fr0 (ho6 mp (Ne.symm g4))
  have hsome : (plF (swapL row i (row.length - 1) hi hMl) x).isSome = true := by
    rw [plF_at HND.out (by rw [swap_len]; exact hMl) ((swap_j hi hMl).trans HX.out)]; rfl
  obtain ⟨w7, r1, r2, r3⟩ := hm6.del Try.underlying45 hsome 0
  have hf7 := fr_turned (S := [mp]) r3 (by simp)
  have hT7 : Tr b w7 p mt mp nt At (cutL row i hi) (.slice (some ⟨g, 0, none⟩) M cap) := by
    have hlc : (cutL row i hi).length = M := by rw [HL.out, HMM.out]
    refine ⟨(hf7.block p (Array.getElem?_eq_some_iff.1 hp6).1 (by simpa using g4)).trans hp6, (HT5.out.ti.fr0 (ho6 mt (Ne.symm g5))).fr hf7 (by simpa using HT5.out.ne), ?_, ?_, ?_, HT5.out.ne⟩
    · rw [hlc]; exact r2.congr HPF.out
    · have h1 := HOC.out
      rw [HMM.out] at h1
      have h2 : OwV vU W6 b 23 (.slice (some ⟨g, 0, none⟩) M cap) (cutL row i hi) := owv_at h1 (ho6 g (Ne.symm g1))
      refine owv_fr h2 hf7 fun q hq => ?_
      obtain rfl : q = mp := by simpa using hq
      obtain ⟨es, ck, hmb⟩ := hm6.block
      exact ⟨_, hmb, map_ne⟩
    · have := HND.out
      rw [HSP.out, List.nodup_append] at this
      exact this.1
  have HE6 : Hid (Below b w W6) := hid (by rw [hW6]; exact HE5.out.setCell (by dsimp only; omega) _)
  have HE7 : Hid (Below b w w7) := hid (HE6.out.trans (hf7.below (by simpa using hb2) (Nat.le_trans hbw HE6.out.size)))
  have HF7 : Hid (Fr (Hb p mt mp (.slice (some ⟨g, 0, none⟩) row.length cap)) w w7) := hid ((HFA.out.trans (by rw [hW6]; exact fr_setCell _ _ _ (by simp [Hb]))).trans (hf7.mono (by intro q hq; obtain rfl : q = mp := (by simpa using hq); simp [Hb])))
  rw [hW6] at r1
  have HT7 := hid hT7
  obtain ⟨-, d1, -⟩ := lk3 hT7.hd
  clear hT7 hf7 r2 r3 hsome hm6 ho6 g1 g2 g3 g4 g5 hp6 hW6
  by_cases him : i < M
  · have hdi : decide ((i : Int) < M) = true := by simp; omega
    have hci := HCT.out i (by rw [HMM.out]; exact him)
    have hyc := HT7.out.ow.cell i (by rw [HL.out, HMM.out]; exact him)
    obtain ⟨y, hy⟩ : ∃ y, (cutL row i hi)[i]'(by rw [HL.out, HMM.out]; exact him) = y := ⟨_, rfl⟩
    rw [hy] at hyc
    have HY := hid hy
    clear hci hy
    go_wp2_with fail
    refine (settle_any b w7 p mt mp nt At (cutL row i hi) g M cap i y HT7.out (by rw [HL.out, HMM.out]; exact him) HY.out (by rw [HL.out]; omega) (by have := HAC.out; rw [HMM.out] at this; exact this)).mono ?_
    rintro e w8 ⟨⟨u2, rfl⟩, row', hpr, hT8, hH8, hF8⟩
    have HT8 := hid hT8
    have HH8 := hid hH8
    have HE8 : Hid (Below b w w8) := hid (HE7.out.trans (hF8.below (by simp; omega) (Nat.le_trans hbw HE7.out.size)))
    have HPR : Hid ((x :: row').Perm row) := hid ((hpr.cons x).trans HPM.out)
    have HTN := hid (turn_same (n2 := M) (HF7.out.trans (hF8.mono sub_hb)))
    clear hT8 hH8 hF8 hpr
    go_wp2
    go_returns
    exact ⟨⟨_, rfl⟩, row', _, HPR.out, HT8.out, by rw [HMM.out]; exact HH8.out, HE8.out, HTN.out⟩
  · have hdi : decide ((i : Int) < M) = false := by simp; omega
    have HHF : Hid (HP (rowK At (cutL row i hi)) (row.length - 1)) := hid (HHC.out (by rw [HMM.out]; exact him))
    go_wp2
    go_returns
    exact ⟨⟨_, rfl⟩, cutL row i hi, _, HPM.out, HT7.out, HHF.out, HE7.out, turn_same HF7.out⟩
end Go.Proofs.Ytkagacopgjcdnaa
