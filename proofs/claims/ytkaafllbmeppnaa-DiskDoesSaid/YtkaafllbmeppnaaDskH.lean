/- Names. -/
import Derived.Test.YtkaafllbmeppnaaDskG
import Derived.Test.YtkaafllbmeppnaaDskSh
import Derived.Sort.OwnSorted
import Derived.Sort.KeysCollected
set_option linter.unusedSimpArgs false
set_option linter.unusedVariables false
namespace Go.Proofs.Ytkaafllbmeppnaa
open Go Go.RowKit Go.Tum Go.ChangeMaps
open Go.ParB (upd Lof)
open Go.ParE (putS slotsR slots Closed)

theorem infoStr : (Try.prog.info? 9).map (fun i => (i.zero, i.size, i.bytes)) = some (some (.string ⟨#[]⟩), 1, 16) := by kernel_rfl
theorem vN_one (x : Nm) : (vN x).oneCell' = true := rfl
abbrev leN (x y : Nm) : Bool := decide (x ≤ y)
theorem sorted_merge {d : Dir} (h : Sorted d) {ss : List Nm} (hp : ss.Perm (d.map Prod.fst)) : ss.mergeSort (fun x y => decide (x ≤ y)) = d.map Prod.fst := by
  have h1 : ss.mergeSort leB = (d.map Prod.fst).mergeSort leB := mergeSort_of_perm hp
  have h2 : (d.map Prod.fst).mergeSort leB = d.map Prod.fst := by
    refine List.mergeSort_of_pairwise ?_
    rw [List.pairwise_map]
    refine List.Pairwise.imp ?_ h
    intro a b hlt
    simp only [leB, decide_eq_true_eq]
    exact List.le_of_lt hlt
  exact h1.trans h2
def NamsP (w : World) (d : List Nm) (e : Ending) (w' : World) : Prop := (∃ v, e = .returned v ∧ OwV vN w' w.heap.size 9 v d) ∧ Ext w w'
theorem noN_perm {n : Nm} {b : Nat} : ∀ {d : Dir}, (n, b) ∈ d → (d.map Prod.fst).Nodup → ([n] ++ (noN d n).map Prod.fst).Perm (d.map Prod.fst)
  | [], h, _ => absurd h (by simp)
  | (a, c) :: r, h, hn => by
    rw [List.map_cons, List.nodup_cons] at hn
    by_cases e : a = n
    · subst e
      have : noN ((a, c) :: r) a = r := by
        unfold noN
        rw [List.filter_cons]
        simp only [bne_self_eq_false, Bool.false_eq_true, if_false]
        refine List.filter_eq_self.2 fun q hq => ?_
        have : q.1 ≠ a := fun e => hn.1 (List.mem_map.2 ⟨q, hq, e⟩)
        simpa using this
      rw [this]; exact List.Perm.refl _
    · have e2 : noN ((a, c) :: r) n = (a, c) :: noN r n := by
        unfold noN
        rw [List.filter_cons]
        simp [e]
      have h2 : (n, b) ∈ r := by
        rcases List.mem_cons.1 h with e3 | e3
        · cases e3; exact absurd rfl e
        · exact e3
      rw [e2, List.map_cons, List.map_cons]
      exact (List.Perm.swap _ _ _).trans (List.Perm.cons a (noN_perm h2 hn.2))
theorem RNG.nd {w : World} {m r cnt : Nat} {l rem : Dir} (h : RNG w m r l rem cnt) : (rem.map Prod.fst).Nodup := by
  obtain ⟨D, left, n, h1, h2, h3, h4, h5, h6⟩ := h
  rw [h3]
  exact (List.filter_sublist.map Prod.fst).nodup h4
theorem HRG3 {w w3 : World} {m r cnt g : Nat} {l rem : Dir} {ss : List Nm} {v : Value} {o : Obj} (h : RNG w m r l rem cnt) (ho : OwV vN w g 9 v ss) (f : Fr (oB v) (w.alloc o) w3) : RNG w3 m r l rem cnt := by
  have h1 := h.kept (S := []) (Ext.fr (Ext.alloc w o)) (by simp) (by simp)
  have ho1 := ho.ext (Ext.alloc w o)
  refine h1.kept f ?_ ?_
  · obtain ⟨D, left, nn, ⟨es, clock, since, seen, c0, hb, rest⟩, -⟩ := h1
    exact row_no ho1 hb (by intro cs e; cases e)
  · obtain ⟨D, left, nn, ⟨es, clock, since, seen, c0, hb, F, hs, hD, hr2, rest⟩, -⟩ := h1
    exact row_no ho1 hr2 (by intro cs e; cases e)
set_option maxRecDepth 100000 in
set_option maxHeartbeats 2000000 in
theorem dnames_any (w : World) (m : Nat) (l : Dir) (h : PM w m l) (hs : Sorted l) (hl : l.length ≤ 1000) :
    Calls Try.prog 41 #[.map (some m)] w fun e w' => NamsP w (l.map Prod.fst) e w' := by
  have HM := hid h
  have HND := hid (sorted_nodup hs)
  have HS := hid hs
  clear h hs
  go_enter Try.func41, Try.ntmps41
  go_wp2_with (at_range; refine wpList_range_PM _ rfl _ rfl m l rfl HM.out HND.out ?_; intro w0 hrg0 hE0; have HRG := hid hrg0; have HE0 := hid hE0; clear hrg0 hE0)
  obtain ⟨r, hr⟩ : ∃ r, w.heap.size = r := ⟨_, rfl⟩
  rw [hr] at HRG ⊢
  have HR := hid hr
  clear hr
  go_frame
  go_loopw [3] (fun v wr => ∃ (rem : Dir) (cnt : Nat) (ss : List Nm) (ao : Option Addr) (cap : Nat), v = .slice ao ss.length cap ∧ Hid (OwV vN wr w.heap.size 9 (.slice ao ss.length cap) ss) ∧ Hid (RNG wr m r l rem cnt) ∧ Hid ((ss ++ rem.map Prod.fst).Perm (l.map Prod.fst)) ∧ Hid (Ext w wr)) (fun _ wr => wr.rangeLeft m r)
  case atStart => exact ⟨l, _, [], none, 0, rfl, OwV.nil _ _ _, HRG, hid (List.Perm.refl _), HE0⟩
  case round =>
    obtain ⟨rem, cnt, ss, ao, cap, rfl, HO, HRG, HP, HE⟩ := hrel
    have hsl : ss.length + rem.length = l.length := by have := HP.out.length_eq; simpa using this
    have HSL := hid hsl
    clear hsl
    go_wp2_with (first
      | (at_next; refine wpList_next_RNG _ rfl _ rfl m r cnt l rem rfl HRG.out ?_ ?_))
    · intro h0
      subst h0
      have hperm : ss.Perm (l.map Prod.fst) := by have := HP.out; simpa using this
      have HPM := hid hperm
      have HSS : Hid (ss.mergeSort (fun x y => decide (x ≤ y)) = l.map Prod.fst) := hid (sorted_merge HS.out hperm)
      clear hperm
      rcases HO.out.2 with ⟨hv, hn0⟩ | ⟨g, cap', cur, hv, hb, hgg, q1, q2, q3, q4⟩
      · have hs0 : ss = [] := List.length_eq_zero_iff.1 (by simpa using hn0)
        subst hs0
        cases hv
        have hs0 : ([] : List Nm) = [] := rfl
        have hl0 : l.map Prod.fst = [] := by exact (List.nil_perm.1 HPM.out)
        have HL0 := hid hl0
        clear hn0 hl0
        go_wp2_with fail
        refine (Try.slices_Sort_string_none none 0 _).mono ?_
        rintro e w9 ⟨rfl, rfl⟩
        go_wp2
        go_ret
        rw [HL0.out]
        exact ⟨⟨_, rfl, OwV.nil _ _ _⟩, HE.out⟩
      · cases hv
        have hc := Try.slices_Sort_string g 0 cap ss wr (holds_of_block hgg (by have := q4; rw [Nat.mul_one] at this; exact this)) (Array.getElem?_eq_some_iff.1 hgg).1 (by have := HSL.out; omega)
        have HC := hid hc
        have HG := hid (And.intro hb (And.intro hgg (And.intro q1 (And.intro q2 q3))))
        clear hc hb hgg q1 q2 q3 q4
        go_wp2_with fail
        refine HC.out.mono ?_
        rintro e w9 ⟨rfl, nn, os, hw9⟩
        have HW9 : Hid (OwV vN w9 w.heap.size 9 (.slice (some ⟨g, 0, none⟩) ss.length cap) (l.map Prod.fst)) := hid (by
          obtain ⟨k1, k2, k3, k4, k5⟩ := HG.out
          have hlen : (l.map Prod.fst).length = ss.length := HPM.out.length_eq.symm
          rw [HSS.out] at hw9
          subst hw9
          unfold OwV
          rw [hlen]
          exact Go.ownsRow_sorted hlen k1 k2 (by have := k3; omega) k4 (by have := k5; simpa using this))
        have HF9 : Hid (Ext w w9) := hid (by
          obtain ⟨k1, -⟩ := HG.out
          subst hw9
          exact Below.trans HE.out ((Below.refl _ wr).grown (grownBy_sorted _) HE.out.size fun j hj => by cases hj; exact k1))
        clear hw9
        go_wp2
        go_ret
        exact ⟨⟨_, rfl, HW9.out⟩, HF9.out⟩
    · intro n b w' cnt' k1 k2 k3 k4 k5 k6 k7
      have hrit : r ∉ oB (.slice ao ss.length cap) := by
        obtain ⟨D, left, nn, ⟨es, clock, since, seen, c0, hb, F, hs, hD, hr2, rest⟩, -⟩ := HRG.out
        exact row_no HO.out hr2 (by intro cs e; cases e)
      have HO2 : Hid (OwV vN w' w.heap.size 9 (.slice ao ss.length cap) ss) := hid (ownsRow_fr HO.out k6 (fun q hq hq2 => by
        obtain rfl : q = r := by simpa using hq2
        exact hrit hq))
      have HE2 : Hid (Ext w w') := hid (Below.trans HE.out (k6.below (by simp; have := HR.out; omega) HE.out.size))
      have hpn : ((ss ++ [n]) ++ (noN rem n).map Prod.fst).Perm (l.map Prod.fst) := by
        refine List.Perm.trans ?_ HP.out
        rw [List.append_assoc]
        exact List.Perm.append_left ss (noN_perm k1 HRG.out.nd)
      have HP2 := hid hpn
      have HRG2 := hid k4
      have HK5 := hid (show w'.rangeLeft m r < wr.rangeLeft m r by rw [k4.left, HRG.out.left]; exact k5)
      have hssl : ss.length ≤ 1000 := by have := HSL.out; omega
      clear k1 k2 k3 k4 k5 k6 hrit hpn
      go_wp2_with (at_builtin; refine wpList_append_vec vN_one rfl (.tmp 11) (.tmp 13) 41 rfl w.heap.size 9 Try.underlying41 infoStr rfl rfl (HO2.out.ext (Ext.alloc _ _)) rfl (Vec.one _ _ _ n rfl) (ss.length + 1) (by simp) (by omega) (by omega) (Nat.le_trans HE2.out.size (by simp)) ?_; intro ao3 cap3 w3 hO3 hg3 hb3; have HO3 := hid hO3; have HG3 := hid hg3; have HE3 : Hid (Ext w w3) := hid (Below.trans (HE2.out.trans (Ext.alloc _ _)) hb3); have HF3 : Hid (Fr (oB (.slice ao ss.length cap)) (w'.alloc (.cells #[vN n] 9)) w3) := hid (fr_grown hg3 hb3); clear hO3 hg3 hb3)
      go_roundw
      case rel => exact ⟨noN rem n, cnt', ss ++ [n], ao3, cap3, by simp, by simpa using HO3, HRG3 HRG2.out HO2.out HF3.out, HP2, HE3⟩
      case measure => rw [(HRG3 HRG2.out HO2.out HF3.out).left, ← HRG2.out.left]; exact HK5.out
set_option maxRecDepth 100000 in
theorem dNames_any {B : Nat} {w : World} {p : Nat} {x : DX} {s : PS} (h : Dk B w p x s) :
    Calls Try.prog 16 #[pv p] w fun e w' => NamsP w (s.dir.map Prod.fst) e w' := by
  obtain ⟨⟨-, c1, -⟩, -⟩ := lk6 h.hd
  have hn := dnames_any w x.md (x.hb s.dir) h.dr (hb_sorted h.gd.dirs) (by rw [hb_len]; have := h.gd.dl; omega)
  rw [hb_fst] at hn
  clear h
  go_enter Try.func16, Try.ntmps16
  go_wp2_with fail
  refine hn.mono ?_
  rintro e w2 ⟨⟨v, rfl, ho⟩, hE⟩
  have HO := hid ho
  have HE := hid hE
  clear ho hE hn
  go_wp2
  go_ret
  exact ⟨⟨_, rfl, HO.out⟩, HE.out⟩
end Go.Proofs.Ytkaafllbmeppnaa
