/- The document's heap: Put. -/
import Derived.Test.YtkagacopgjcdnaaDueQ
set_option linter.unusedSimpArgs false
set_option linter.unusedVariables false
namespace Go.Proofs.Ytkagacopgjcdnaa
open Go Go.RowKit Go.Tum Go.ChangeMaps Go.Tum.Hp

theorem box1_set {w : World} {r : Nat} {v : Value} {ty : TypeId} (u : Value) (h : w.heap[r]? = some (.cells #[v] ty (0, 0))) : (w.setCell ⟨r, 0, none⟩ u).heap[r]? = some (.cells #[u] ty (0, 0)) := by
  rw [heap_setCell_same _ _ _ _ _ _ h]; rfl
theorem OwE.setOther {w : World} {b : Nat} {v : Value} {L : List Ent} (h : OwE w b v L) (a : Addr) (u : Value) (hlt : a.block < b) : OwE (w.setCell a u) b v L := by
  refine ⟨h.1, ?_⟩
  rcases h.2 with hn | ⟨g, cap, cur, hv, hb, hgg, rest⟩
  · exact .inl hn
  · exact .inr ⟨g, cap, cur, hv, hb, by rw [heap_setCell_other _ _ _ _ (by omega)]; exact hgg, rest⟩
theorem RH.stored {b r : Nat} {w w5 : World} {v u : Value} {M : List Ent} (hb : b ≤ w.heap.size) (h : w.heap[r]? = some (.cells #[v] 30 (0, 0))) (k : Ext w w5) (ho : OwE w5 w.heap.size u M) :
    RH b (w5.setCell ⟨r, 0, none⟩ u) r M ∧ Fr [r] w (w5.setCell ⟨r, 0, none⟩ u) := by
  have hr := (Array.getElem?_eq_some_iff.1 h).1
  exact ⟨⟨u, box1_set _ (k.obj h), (ho.setOther _ _ hr).mono hb⟩, (Ext.fr k).trans (fr_setCell _ _ _ (by simp))⟩
theorem lesz_of {z y : Ent} : lesz z y = (decide (z.2.toNat < y.2.toNat) || (decide (z.2.toNat = y.2.toNat) && decide (z.1.toNat < y.1.toNat))) := by
  unfold lesz kz
  have h1 := z.1.toNat_lt
  have h2 := y.1.toNat_lt
  rw [Bool.eq_iff_iff]
  simp only [decide_eq_true_eq, Bool.or_eq_true, Bool.and_eq_true]
  omega
def RHPutP (b : Nat) (w : World) (r : Nat) (L : List Ent) (x a : UInt64) (e : Ending) (w' : World) : Prop :=
  (x ∈ L.map Prod.fst → e = .returned (.bool false) ∧ w = w') ∧ (x ∉ L.map Prod.fst → e = .returned (.bool true) ∧ RH b w' r (insE L (x, a)) ∧ Fr [r] w w')
set_option maxRecDepth 100000 in
set_option maxHeartbeats 1000000 in
theorem rhput_any (b : Nat) (w : World) (r : Nat) (L : List Ent) (x a : UInt64) (h : RH b w r L) (hb : b ≤ w.heap.size) (hl : L.length ≤ 10000) :
    Calls Try.prog 9 #[pv r, vU x, vU a] w fun e w' => RHPutP b w r L x a e w' := by
  have HR := hid h
  rcases fdE_step (L := L) (x := x) with ⟨k, hk, h1, h2, hf⟩ | ⟨hn, hf⟩
  · have hx : x ∈ L.map Prod.fst := by rw [← h2]; exact List.mem_map_of_mem (f := Prod.fst) (List.getElem_mem hk)
    have hd : decide ((k : Int) ≥ 0) = true := by simp
    have HX := hid hx
    have HF := hid hf
    clear hx hf h1 h2
    go_enter Try.func9, Try.ntmps9
    go_wp2_with fail
    refine (rfind_any b _ r L x HR.out).mono ?_
    rintro e w1 ⟨rfl, rfl⟩
    rw [HF.out]
    go_wp2
    go_ret
    exact ⟨fun _ => ⟨rfl, rfl⟩, fun hn => absurd HX.out hn⟩
  · obtain ⟨v, hr, ho⟩ := h
    obtain ⟨c0, -⟩ := box1 hr
    have HB := hid hr
    have HS := hid ho.sl
    obtain ⟨ao, cap, rfl, hle, hm, hnn, hcell⟩ := ho.rows.open
    have HC := hid hcell
    have HNN := hid hnn
    have HX := hid hn
    have HF := hid hf
    clear hr ho hcell hnn hn hf
    go_enter Try.func9, Try.ntmps9
    go_wp2_with fail
    refine (rfind_any b _ r L x HR.out).mono ?_
    rintro e w1 ⟨rfl, rfl⟩
    rw [HF.out]
    go_wp2
    go_loopw [7] (fun i wr => ∃ k : Nat, k ≤ L.length ∧ i = .int .i64 k ∧ Hid (∀ j (h : j < k) (h2 : j < L.length), lesz L[j] (x, a) = true) ∧ wr = w) (fun i _ => L.length - (intOf i).toNat)
    case atStart => exact ⟨0, by omega, rfl, hid (fun j h => absurd h (by omega)), rfl⟩
    case round =>
      obtain ⟨k, hk, rfl, HE, rfl⟩ := hrel
      by_cases hlt : k < L.length
      · obtain ⟨g, rfl⟩ := HNN.out (by omega)
        have hc0 := cell_first (HC.out g rfl k hlt 0 _ rfl)
        have hc1 := cell_next (HC.out g rfl k hlt 1 _ rfl) (by decide)
        have hi1 : decide ((k : Int) < L.length) = true := by simp; omega
        have hi2 : decide (k < L.length) = true := by simp; omega
        have HLZ : Hid (lesz L[k] (x, a) = (decide (L[k].2.toNat < a.toNat) || (decide (L[k].2.toNat = a.toNat) && decide (L[k].1.toNat < x.toNat)))) := hid lesz_of
        obtain ⟨y, hy⟩ : ∃ y, L[k].1 = y := ⟨_, rfl⟩
        obtain ⟨t, ht⟩ : ∃ t, L[k].2 = t := ⟨_, rfl⟩
        rw [hy] at hc0
        rw [ht] at hc1
        rw [hy, ht] at HLZ
        clear hy ht
        by_cases q1 : t.toNat < a.toNat
        · have e1 : decide (t.toNat < a.toNat) = true := by simpa using q1
          have HT : Hid (lesz L[k] (x, a) = true) := hid (by rw [HLZ.out, e1]; rfl)
          clear q1
          clear HC HNN
          go_wp2
          go_roundw
          case rel => exact ⟨k + 1, by omega, by go_num, hid (by
            intro j hj hjl
            by_cases hjk : j = k
            · subst hjk; exact HT.out
            · exact HE.out j (by omega) hjl), trivial⟩
          case measure => simp [intOf]; omega
        · have e1 : decide (t.toNat < a.toNat) = false := by simpa using q1
          clear q1
          by_cases q2 : t.toNat = a.toNat
          · have e2 : ((t.toNat : Int) == (a.toNat : Int)) = true := by simp; omega
            have e2' : decide (t.toNat = a.toNat) = true := by simpa using q2
            by_cases q3 : y.toNat < x.toNat
            · have e3 : decide (y.toNat < x.toNat) = true := by simpa using q3
              have HT : Hid (lesz L[k] (x, a) = true) := hid (by rw [HLZ.out, e1, e2', e3]; rfl)
              clear q2 q3 e2'
              clear HC HNN
              go_wp2
              go_roundw
              case rel => exact ⟨k + 1, by omega, by go_num, hid (by
                intro j hj hjl
                by_cases hjk : j = k
                · subst hjk; exact HT.out
                · exact HE.out j (by omega) hjl), trivial⟩
              case measure => simp [intOf]; omega
            · have e3 : decide (y.toNat < x.toNat) = false := by simpa using q3
              have HT : Hid (lesz L[k] (x, a) = false) := hid (by rw [HLZ.out, e1, e2', e3]; rfl)
              clear q2 q3 e2'
              have HP : Hid (plE L (x, a) = k) := hid (plE_of hk (fun j h => HE.out j h (by omega)) (fun _ => HT.out))
              clear HC HNN HE
              have c0' : ∀ o : Obj, (wr.alloc o).cell? ⟨r, 0, none⟩ = some (.slice (some g) L.length cap) := fun o => (Ext.alloc wr o).cell c0
              have hkc : decide (k ≤ cap) = true := by simp <;> omega
              have hkl : decide (k ≤ L.length) = true := by simp <;> omega
              go_wp2_with (first
                | (at_builtin; refine wpList_append_ent rfl (.tmp 58) (.tmp 64) rfl wr.heap.size rfl (OwE.lit0 wr wr.heap.size (Nat.le_refl _)) rfl ((HS.out.ext (Ext.alloc _ _)).take k hk) k (by simp <;> omega) (by omega) (by simp) ?_; intro ao2 cap2 w2 hO2 hg2 hb2; have HO2 := hid hO2; have HE2 : Hid (Ext wr w2) := hid (Below.trans (Ext.alloc _ _) hb2); clear hO2 hg2 hb2 c0')
                | (at_builtin; refine wpList_append_ent rfl (.tmp 65) (.tmp 69) rfl wr.heap.size rfl (HO2.out.ext (Ext.alloc _ _)) rfl (SlE.one _ x a) (k + 1) (by simp <;> omega) (by omega) (Nat.le_trans HE2.out.size (by simp)) ?_; intro ao3 cap3 w3 hO3 hg3 hb3; have HO3 := hid hO3; have HE3 : Hid (Ext wr w3) := hid (Below.trans (HE2.out.trans (Ext.alloc _ _)) hb3); clear hO3 hg3 hb3; have c1 := HE3.out.cell c0)
                | (at_builtin; refine wpList_append_ent rfl (.tmp 72) (.tmp 78) rfl wr.heap.size rfl HO3.out rfl ((HS.out.ext HE3.out).drop k hk _ (by first | rfl | (rw [if_neg (by omega)]; rfl) | simp) _ _ (by omega) (by omega)) (L.length + 1) (by simp <;> omega) (by omega) HE3.out.size ?_; intro ao4 cap4 w4 hO4 hg4 hb4; have HO4 := hid hO4; have HE4 : Hid (Ext wr w4) := hid (Below.trans HE3.out hb4); clear hO4 hg4 hb4 c1; obtain ⟨c2, f2⟩ := box1 (HE4.out.obj HB.out)))
              go_ret
              refine ⟨fun hn => absurd hn HX.out, fun _ => ⟨rfl, ?_⟩⟩
              have hO := HO4.out
              have e5 : (([] ++ L.take k) ++ [(x, a)]) ++ L.drop k = insE L (x, a) := by
                rw [List.nil_append, List.append_assoc, ← HP.out, take_plE, drop_plE]; rfl
              rw [e5] at hO
              exact RH.stored hb HB.out HE4.out hO
          · have e2 : ((t.toNat : Int) == (a.toNat : Int)) = false := by simp; omega
            have e2' : decide (t.toNat = a.toNat) = false := by simpa using q2
            have HT : Hid (lesz L[k] (x, a) = false) := hid (by rw [HLZ.out, e1, e2']; rfl)
            clear q2 e2'
            have HP : Hid (plE L (x, a) = k) := hid (plE_of hk (fun j h => HE.out j h (by omega)) (fun _ => HT.out))
            clear HC HNN HE
            have c0' : ∀ o : Obj, (wr.alloc o).cell? ⟨r, 0, none⟩ = some (.slice (some g) L.length cap) := fun o => (Ext.alloc wr o).cell c0
            have hkc : decide (k ≤ cap) = true := by simp <;> omega
            have hkl : decide (k ≤ L.length) = true := by simp <;> omega
            go_wp2_with (first
              | (at_builtin; refine wpList_append_ent rfl (.tmp 58) (.tmp 64) rfl wr.heap.size rfl (OwE.lit0 wr wr.heap.size (Nat.le_refl _)) rfl ((HS.out.ext (Ext.alloc _ _)).take k hk) k (by simp <;> omega) (by omega) (by simp) ?_; intro ao2 cap2 w2 hO2 hg2 hb2; have HO2 := hid hO2; have HE2 : Hid (Ext wr w2) := hid (Below.trans (Ext.alloc _ _) hb2); clear hO2 hg2 hb2 c0')
              | (at_builtin; refine wpList_append_ent rfl (.tmp 65) (.tmp 69) rfl wr.heap.size rfl (HO2.out.ext (Ext.alloc _ _)) rfl (SlE.one _ x a) (k + 1) (by simp <;> omega) (by omega) (Nat.le_trans HE2.out.size (by simp)) ?_; intro ao3 cap3 w3 hO3 hg3 hb3; have HO3 := hid hO3; have HE3 : Hid (Ext wr w3) := hid (Below.trans (HE2.out.trans (Ext.alloc _ _)) hb3); clear hO3 hg3 hb3; have c1 := HE3.out.cell c0)
              | (at_builtin; refine wpList_append_ent rfl (.tmp 72) (.tmp 78) rfl wr.heap.size rfl HO3.out rfl ((HS.out.ext HE3.out).drop k hk _ (by first | rfl | (rw [if_neg (by omega)]; rfl) | simp) _ _ (by omega) (by omega)) (L.length + 1) (by simp <;> omega) (by omega) HE3.out.size ?_; intro ao4 cap4 w4 hO4 hg4 hb4; have HO4 := hid hO4; have HE4 : Hid (Ext wr w4) := hid (Below.trans HE3.out hb4); clear hO4 hg4 hb4 c1; obtain ⟨c2, f2⟩ := box1 (HE4.out.obj HB.out)))
            go_ret
            refine ⟨fun hn => absurd hn HX.out, fun _ => ⟨rfl, ?_⟩⟩
            have hO := HO4.out
            have e5 : (([] ++ L.take k) ++ [(x, a)]) ++ L.drop k = insE L (x, a) := by
              rw [List.nil_append, List.append_assoc, ← HP.out, take_plE, drop_plE]; rfl
            rw [e5] at hO
            exact RH.stored hb HB.out HE4.out hO
      · obtain rfl : k = L.length := by omega
        have hi1 : decide ((L.length : Int) < L.length) = false := by simp
        have HP : Hid (plE L (x, a) = L.length) := hid (plE_of (Nat.le_refl _) (fun j h => HE.out j h (by omega)) (fun h => absurd h (by omega)))
        by_cases hcl : cap = L.length
        · subst hcl
          clear HC HNN HE
          have c0' : ∀ o : Obj, (wr.alloc o).cell? ⟨r, 0, none⟩ = some (.slice ao L.length L.length) := fun o => (Ext.alloc wr o).cell c0
          have hkc : decide (L.length ≤ L.length) = true := by simp <;> omega
          have hkl : decide (L.length ≤ L.length) = true := by simp <;> omega
          go_wp2_with (first
            | (at_builtin; refine wpList_append_ent rfl (.tmp 58) (.tmp 64) rfl wr.heap.size rfl (OwE.lit0 wr wr.heap.size (Nat.le_refl _)) rfl ((HS.out.ext (Ext.alloc _ _)).take L.length hk) L.length (by simp <;> omega) (by omega) (by simp) ?_; intro ao2 cap2 w2 hO2 hg2 hb2; have HO2 := hid hO2; have HE2 : Hid (Ext wr w2) := hid (Below.trans (Ext.alloc _ _) hb2); clear hO2 hg2 hb2 c0')
            | (at_builtin; refine wpList_append_ent rfl (.tmp 65) (.tmp 69) rfl wr.heap.size rfl (HO2.out.ext (Ext.alloc _ _)) rfl (SlE.one _ x a) (L.length + 1) (by simp <;> omega) (by omega) (Nat.le_trans HE2.out.size (by simp)) ?_; intro ao3 cap3 w3 hO3 hg3 hb3; have HO3 := hid hO3; have HE3 : Hid (Ext wr w3) := hid (Below.trans (HE2.out.trans (Ext.alloc _ _)) hb3); clear hO3 hg3 hb3; have c1 := HE3.out.cell c0)
            | (at_builtin; refine wpList_append_ent rfl (.tmp 72) (.tmp 78) rfl wr.heap.size rfl HO3.out rfl ((HS.out.ext HE3.out).drop L.length hk _ (by first | rfl | (rw [if_neg (by omega)]; rfl) | simp) _ _ (by omega) (by omega)) (L.length + 1) (by simp <;> omega) (by omega) HE3.out.size ?_; intro ao4 cap4 w4 hO4 hg4 hb4; have HO4 := hid hO4; have HE4 : Hid (Ext wr w4) := hid (Below.trans HE3.out hb4); clear hO4 hg4 hb4 c1; obtain ⟨c2, f2⟩ := box1 (HE4.out.obj HB.out)))
          go_ret
          refine ⟨fun hn => absurd hn HX.out, fun _ => ⟨rfl, ?_⟩⟩
          have hO := HO4.out
          have e5 : (([] ++ L.take L.length) ++ [(x, a)]) ++ L.drop L.length = insE L (x, a) := by
            rw [List.nil_append, List.append_assoc, ← HP.out, take_plE, drop_plE]; rfl
          rw [e5] at hO
          exact RH.stored hb HB.out HE4.out hO
        · obtain ⟨g, rfl⟩ := HNN.out (by omega)
          clear HC HNN HE
          have c0' : ∀ o : Obj, (wr.alloc o).cell? ⟨r, 0, none⟩ = some (.slice (some g) L.length cap) := fun o => (Ext.alloc wr o).cell c0
          have hkc : decide (L.length ≤ cap) = true := by simp <;> omega
          have hkl : decide (L.length ≤ L.length) = true := by simp <;> omega
          go_wp2_with (first
            | (at_builtin; refine wpList_append_ent rfl (.tmp 58) (.tmp 64) rfl wr.heap.size rfl (OwE.lit0 wr wr.heap.size (Nat.le_refl _)) rfl ((HS.out.ext (Ext.alloc _ _)).take L.length hk) L.length (by simp <;> omega) (by omega) (by simp) ?_; intro ao2 cap2 w2 hO2 hg2 hb2; have HO2 := hid hO2; have HE2 : Hid (Ext wr w2) := hid (Below.trans (Ext.alloc _ _) hb2); clear hO2 hg2 hb2 c0')
            | (at_builtin; refine wpList_append_ent rfl (.tmp 65) (.tmp 69) rfl wr.heap.size rfl (HO2.out.ext (Ext.alloc _ _)) rfl (SlE.one _ x a) (L.length + 1) (by simp <;> omega) (by omega) (Nat.le_trans HE2.out.size (by simp)) ?_; intro ao3 cap3 w3 hO3 hg3 hb3; have HO3 := hid hO3; have HE3 : Hid (Ext wr w3) := hid (Below.trans (HE2.out.trans (Ext.alloc _ _)) hb3); clear hO3 hg3 hb3; have c1 := HE3.out.cell c0)
            | (at_builtin; refine wpList_append_ent rfl (.tmp 72) (.tmp 78) rfl wr.heap.size rfl HO3.out rfl ((HS.out.ext HE3.out).drop L.length hk _ (by first | rfl | (rw [if_neg (by omega)]; rfl) | simp) _ _ (by omega) (by omega)) (L.length + 1) (by simp <;> omega) (by omega) HE3.out.size ?_; intro ao4 cap4 w4 hO4 hg4 hb4; have HO4 := hid hO4; have HE4 : Hid (Ext wr w4) := hid (Below.trans HE3.out hb4); clear hO4 hg4 hb4 c1; obtain ⟨c2, f2⟩ := box1 (HE4.out.obj HB.out)))
          go_ret
          refine ⟨fun hn => absurd hn HX.out, fun _ => ⟨rfl, ?_⟩⟩
          have hO := HO4.out
          have e5 : (([] ++ L.take L.length) ++ [(x, a)]) ++ L.drop L.length = insE L (x, a) := by
            rw [List.nil_append, List.append_assoc, ← HP.out, take_plE, drop_plE]; rfl
          rw [e5] at hO
          exact RH.stored hb HB.out HE4.out hO
end Go.Proofs.Ytkagacopgjcdnaa
