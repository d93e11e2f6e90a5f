/- apply. -/
import Derived.Test.YtijpokajhjhllaaGreatDoorDskN
set_option linter.unusedSimpArgs false
set_option linter.unusedVariables false
namespace Go.Proofs.YtijpokajhjhllaaGreatDoor
open Go Go.RowKit Go.Tum Go.ChangeMaps

theorem isNone_of {l : Dir} {x : Nm} (h : (l.lookup x).isSome = false) : look l x = none := by
  unfold look
  cases hq : l.lookup x with
  | none => rfl
  | some v => rw [hq] at h; simp at h
theorem PM.congr {w : World} {m : Nat} {l l' : Dir} (h : PM w m l) (hl : l'.length = l.length) (e : ∀ y, l'.lookup y = l.lookup y) : PM w m l' := by
  obtain ⟨D, h1, h2, h3⟩ := h
  exact ⟨D, by rw [hl]; exact h1, by rw [hl]; exact h2, fun y z => by rw [e]; exact h3 y z⟩
theorem PM.put {w : World} {m : Nat} {l : Dir} (h : PM w m l) (hl : l.length ≤ 1048576) {x : Nm} (hk : x.length ≤ maxLen) (b : Nat) :
    ∃ w', (Instr.mapUpdate 68 (.map (some m)) (vN x) (.pointer (some ⟨b, 0, none⟩))).run Tryz.prog w = .ok () w' ∧ w.mapTurned w' m ∧
      ∀ l' : Dir, (∀ y, l'.lookup y = if y = x then some b else l.lookup y) → l'.length = (if (l.lookup x).isSome then l.length else l.length + 1) → PM w' m l' := by
  obtain ⟨D, h1, h2, h3⟩ := h
  obtain ⟨w', hrun, r1, r2⟩ := h1.store keyedS Tryz.underlying68 (by simp [maxLen]; omega) (kN_key hk) (show rdP (.pointer (some ⟨b, 0, none⟩)) = some (.lit (.int .i64 (b : Int)), []) from rfl)
  refine ⟨w', hrun, r2, fun l' e hlen => ?_⟩
  have hsz : Maps.size (D.put (kN x) (.lit (.int .i64 (b : Int)))) = l'.length := by
    rw [Maps.size_put (h1.tidy keyedS), PM.has (w := w) (m := m) h3 x, h2, hlen]
  refine ⟨_, ?_, hsz, fun y z => ?_⟩
  · obtain ⟨es, c, e1, e2, e3, e4⟩ := r1
    refine ⟨es, c, e1, e2, ?_, e4⟩
    rw [← hsz, e4]
    simp [Maps.size, length_sorted]
  · rw [e]
    by_cases hy : y = x
    · subst hy
      rw [Maps.atKey_put_same h1.isMap (by simp [WideAt.IsKeyLit]), if_pos rfl]
    · rw [Maps.atKey_put_other (kN_ne hy), h3, if_neg hy]
theorem PM.delAny {w : World} {m : Nat} {l : Dir} (h : PM w m l) (hs : Sorted l) {x : Nm} (hk : x.length ≤ maxLen) (ty : TypeId) :
    ∃ w', (Builtin.delete_ #[68, 9] ty #[.map (some m), vN x]).run Tryz.prog w = .ok (.tuple #[]) w' ∧ PM w' m (noN l x) ∧ w.mapTurned w' m := by
  obtain ⟨D, h1, h2, h3⟩ := h
  obtain ⟨w', hrun, r1, r2⟩ := h1.drop keyedS Tryz.underlying68 (kN_key hk) ty
  have hsz : Maps.size (D.del (kN x)) = (noN l x).length := by
    have := Maps.size_del (h1.tidy keyedS) (k := kN x)
    rw [PM.has (w := w) (m := m) h3 x, h2] at this
    cases hx : (l.lookup x).isSome with
    | true =>
      rw [hx] at this
      have h9 := noN_len hs (n := x) hx
      simp at this; omega
    | false =>
      rw [hx] at this
      rw [noN_same (isNone_of hx)]
      simpa using this
  refine ⟨w', hrun, ⟨_, ?_, hsz, fun y z => ?_⟩, r2⟩
  · obtain ⟨es, c, e1, e2, e3, e4⟩ := r1
    refine ⟨es, c, e1, e2, ?_, e4⟩
    rw [← hsz, e4]
    simp [Maps.size, length_sorted]
  · show _ = match (noN l x).lookup y with | none => z | some b => .lit (.int .i64 (b : Int))
    rw [show (noN l x).lookup y = if y = x then none else l.lookup y from look_noN l x y]
    by_cases hy : y = x
    · subst hy; rw [Maps.atKey_del_same, if_pos rfl]
    · rw [Maps.atKey_del_other (kN_ne hy), if_neg hy, h3]; rfl
abbrev chgV (c : Chg) : List Value := [vN c.frm, vN c.to, ptr c.file]
def ApP (w : World) (m : Nat) (l : Dir) (c : Chg) (e : Ending) (w' : World) : Prop := (∃ u, e = .returned u) ∧ PM w' m (appC l c) ∧ Fr [m] w w'
theorem inN_no_len {l : Dir} (h : Sorted l) (n : Nm) (f : Nat) : (inN (noN l n) n f).length = if (l.lookup n).isSome then l.length else l.length + 1 := by
  rw [inN_len]
  cases hx : (l.lookup n).isSome with
  | true =>
    have := noN_len h (n := n) hx
    simp; omega
  | false =>
    rw [noN_same (isNone_of hx)]
    simp
set_option maxHeartbeats 1000000 in
theorem dapp_any (w : World) (m : Nat) (l : Dir) (c : Chg) (h : PM w m l) (hs : Sorted l) (hl : l.length ≤ 1000) (h1 : c.frm.length ≤ maxLen) (h2 : c.to.length ≤ maxLen) :
    Calls Tryz.prog 50 #[.map (some m), .agg #[vN c.frm, vN c.to, ptr c.file]] w fun e w' => ApP w m l c e w' := by
  obtain ⟨frm, to, file⟩ := c
  simp only at h1 h2
  have hB := heap_alloc_new w (.cells #[vN frm, vN to, ptr file] 93 (0, 0))
  have E1 : Ext w (w.alloc (.cells #[vN frm, vN to, ptr file] 93 (0, 0))) := Ext.alloc _ _
  have hbm : w.heap.size ≠ m := by
    obtain ⟨es, ck, hb⟩ := h.block
    have := (Array.getElem?_eq_some_iff.1 hb).1
    omega
  have hP := h.fr (S := []) (Ext.fr E1) (by simp)
  obtain ⟨w2, r1, r2, r3⟩ := hP.delAny hs h1 0
  have f3 := fr_turned (S := [m]) r3 (by simp)
  have F2 : Hid (Fr [m] w w2) := hid ((Ext.fr E1).trans f3)
  have hB2 := (f3.block w.heap.size (Array.getElem?_eq_some_iff.1 hB).1 (by simpa using hbm)).trans hB
  obtain ⟨c0, c1, c2, -⟩ := lk3 hB
  obtain ⟨d0, d1, d2, -⟩ := lk3 hB2
  cases file with
  | none =>
    have HR := hid r2
    simp only [ptr] at r1 c2 d2 hB ⊢
    clear r2 r3 f3 hP h hbm hB hB2
    go_enter Tryz.func50, Tryz.ntmps50
    go_wp2
    go_returns
    exact ⟨⟨_, rfl⟩, HR.out, F2.out⟩
  | some b =>
    obtain ⟨w3, s1, s2, s3⟩ := r2.put (by have := List.length_filter_le (fun p : Nm × Nat => p.1 != frm) l; show (noN l frm).length ≤ _; unfold noN; omega) h2 b
    have HR : Hid (PM w3 m (appC l ⟨frm, to, some b⟩)) := hid (s3 _ (fun y => by
      show look (inN (noN (noN l frm) to) to b) y = _
      rw [look_inN (by rw [look_noN, if_pos rfl])]
      split
      · rfl
      · rename_i hy; rw [look_noN, if_neg hy]; rfl) (inN_no_len (noN_sorted hs frm) to b))
    have F3 : Hid (Fr [m] w w3) := hid (F2.out.trans (fr_turned (S := [m]) s2 (by simp)))
    simp only [ptr] at r1 s1 c2 d2 hB ⊢
    clear r2 r3 f3 hP h hbm hB hB2 s3 s2
    go_enter Tryz.func50, Tryz.ntmps50
    go_wp2
    go_returns
    exact ⟨⟨_, rfl⟩, HR.out, F3.out⟩
theorem hb_app (x : DX) (d : Dir) (c : Chg) : x.hb (appC d c) = appC (x.hb d) ⟨c.frm, c.to, c.file.map x.bk⟩ := by
  have h1 : ∀ (d : Dir) n, x.hb (noN d n) = noN (x.hb d) n := fun d n => by
    unfold noN DX.hb
    rw [List.filter_map]; rfl
  have h2 : ∀ (d : Dir) n f, x.hb (inN d n f) = inN (x.hb d) n (x.bk f) := fun d n f => by
    unfold inN DX.hb
    rw [List.takeWhile_map, List.dropWhile_map, List.map_append]; rfl
  obtain ⟨a, b, f⟩ := c
  cases f with
  | none => exact h1 d a
  | some f =>
    show x.hb (inN (noN (noN d a) b) b f) = _
    rw [h2, h1, h1]; rfl
theorem hb_sorted {x : DX} {d : Dir} (h : Sorted d) : Sorted (x.hb d) := by
  unfold DX.hb
  exact List.pairwise_map.2 h
end Go.Proofs.YtijpokajhjhllaaGreatDoor
