/- The document's records: All. -/
import Derived.Test.YtafdandnbbbdfaaDoorRecG
import Derived.Test.YtafdandnbbbdfaaDoorRecT
import Derived.Test.YtafdandnbbbdfaaDoorRecO
import Derived.Test.YtafdandnbbbdfaaDoorFrmF
namespace Go.Tum.Crc
open Go.Tum Go.Tum.Vint
theorem recs_ok {k : Nat} {x : Fr} {r : List Fr} {e : Int} (h : (recRead x).2 = 0) :
    recs k (x :: r) e = ((recRead x).1 :: (recs (k + (x.body.length + 11)) r e).1, (k + (x.body.length + 11)) :: (recs (k + (x.body.length + 11)) r e).2.1, (recs (k + (x.body.length + 11)) r e).2.2) := by
  simp only [recs]; rw [if_neg (by simp [h])]
theorem recs_bad {k : Nat} {x : Fr} {r : List Fr} {e : Int} (h : (recRead x).2 ≠ 0) : recs k (x :: r) e = ([], [], (recRead x).2) := by
  simp only [recs]; rw [if_pos h]
theorem fcat_take_le : ∀ (l : List Fr) (k : Nat), (fcat (l.take k)).length ≤ (fcat l).length
  | [], k => by simp
  | x :: r, 0 => by simp [fcat]
  | x :: r, k + 1 => by
    have := fcat_take_le r k
    simp only [List.take_succ_cons, fcat, List.length_append]; omega
end Go.Tum.Crc
namespace Go.Proofs.YtafdandnbbbdfaaDoor
open Go.RowKit Go.Tum Go.Tum.Crc Go.Tum.Vint

theorem FrsO.farRow {w w' : World} {b b' T f size n : Nat} {u v : Value} {xs : List Value} {l : List Fr} (h : FrsO w b T v l) (hu : w.ownsRow b' f size u n xs) (h1 : T ≠ f) (h2 : 5 ≠ f) (hg : w.grownBy w' u.ownBlock) : FrsO w' b T v l := by
  obtain ⟨m, hm, k2, k3⟩ := h
  exact ⟨m, hm, rows_far k2 hu h1 hg, fun p hp => own_far (k3 p hp) hu h2 hg⟩
theorem FrsO.farRcs {w w' : World} {b b' T f : Nat} {u v : Value} {l : List Fr} {m : List Rc} (h : FrsO w b T v l) (hu : RcsO w b' f u m) (h1 : T ≠ f) (h2 : 5 ≠ f) (hg : w.grownBy w' u.ownBlock) : FrsO w' b T v l := by
  obtain ⟨q, _, k2, _⟩ := hu
  exact h.farRow k2 h1 h2 hg

set_option maxRecDepth 100000 in
set_option maxHeartbeats 1000000 in
theorem rall5_any (v : Value) (b : List UInt8) (w : World) (hb : Byt w v b) (hl : b.length ≤ 1048576) :
    Calls Tryd.prog 20 #[v] w (AllR5 30 w b) := by
  obtain ⟨vo, vc, rfl, -⟩ := hb.open
  have HB := hid hb
  clear hb
  have HO0 := hid (RcsO.lit0 w w.heap.size 30 (Nat.le_refl _))
  have hE1 := Ext.alloc w (.cells #[] 30)
  have hS1 : (w.alloc (.cells #[] 30)).heap.size = w.heap.size + 1 := by simp
  go_enter Tryd.func20, Tryd.ntmps20
  go_wp2_with fail
  generalize w.alloc (.cells #[] 30) = W1 at *
  have hI0 := owv_lit (f := iv) W1 w.heap.size 3 ([] : List Nat) #[] rfl 0 rfl (by omega) (by simp [maxLen])
  have hE2 := Ext.alloc W1 (.cells #[] 3)
  rw [hS1] at hI0
  generalize W1.alloc (.cells #[] 3) = W2 at *
  have HO2 := hid (HO0.out.ext hE2)
  have HI2 := hid hI0
  have HE2 := hid (hE1.trans hE2)
  clear hE1 hE2 hS1 hI0 HO0
  refine (rfall_any _ b _ (HB.out.ext HE2.out) hl).mono ?_
  rintro e W3 ⟨r, rfl, hr, hw⟩
  obtain ⟨F, fn, er, hF⟩ : ∃ F fn er, fall b = (F, fn, er) := ⟨_, _, _, rfl⟩
  have hra := recs_fall b 0
  have hfe := fall_end b
  have hfl := fall_le b
  rw [hF] at hr hra hfe hfl ⊢
  simp only [] at hr hra hfe hfl
  have HBD := hid (show ∀ k, (fcat (F.take k)).length ≤ b.length from fun k => by have := fcat_take_le F k; omega)
  have hFl : F.length ≤ 1048576 := by omega
  obtain ⟨lo, lc, rfl⟩ := hr.open
  have HRA := hid hra
  have HF3 := hid (hr.mono HE2.out.size)
  have HO3 := hid (HO2.out.ext hw)
  have HI3 := hid (HI2.out.ext hw)
  have HE3 := hid (HE2.out.trans hw)
  clear hF hra hfe hfl hr hw HO2 HI2
  go_wp2
  go_loopw [5, 6, 10, 11] (fun o q ai i wr => ∃ (k A : Nat) (m : List Rc) (es : List Nat) (bo : Option Addr) (bc : Nat) (co : Option Addr) (cc : Nat), k ≤ F.length ∧ i = .int .i64 k ∧ ai = .int .i64 A ∧ o = .slice bo k bc ∧ q = .slice co k cc ∧ A ≤ b.length ∧
      Hid (A = (fcat (F.take k)).length) ∧ Hid (m.length = k) ∧ Hid (es.length = k) ∧ Hid (RcsO wr w.heap.size 30 (.slice bo k bc) m) ∧ Hid (OwV iv wr w.heap.size 3 (.slice co k cc) es) ∧
      Hid (FrsO wr w.heap.size 39 (.slice lo F.length lc) F) ∧
      Hid (rall 0 b = (m ++ (recs A (F.drop k) er).1, es ++ (recs A (F.drop k) er).2.1, (recs A (F.drop k) er).2.2)) ∧ Hid (Ext w wr)) (fun _ _ _ i _ => F.length - (intOf i).toNat)
  case atStart => exact ⟨0, 0, [], [], _, 0, _, 0, by omega, rfl, rfl, rfl, rfl, by omega, hid (by simp [fcat]), rfl, rfl, HO3, HI3, HF3, hid (by simpa using HRA.out.symm), HE3⟩
  case round =>
    obtain ⟨k, A, m, es, bo, bc, co, cc, hk, rfl, rfl, rfl, rfl, hA, HA, HM, HES, HO, HI, HF, HV, HE⟩ := hrel
    by_cases hlt : k < F.length
    · obtain ⟨q, hq, hrow, hBq⟩ := HF.out.frs
      obtain ⟨hql, hc1, hc2, hc3, hcell⟩ := hrow.opens
      obtain ⟨a, rfl⟩ := hc3 (by omega)
      have hkq : k < q.length := by omega
      have hx : q[k].1 = F[k] := by
        have h1 : (q.map (·.1))[k]? = F[k]? := by rw [hq]
        rw [List.getElem?_map, List.getElem?_eq_getElem hkq, List.getElem?_eq_getElem hlt] at h1
        simpa using h1
      have c0 := cell_first (hcell a rfl k hkq 0 _ rfl)
      have c1 := cell_next (hcell a rfl k hkq 1 _ rfl) (by decide)
      have hbody := hBq _ (List.getElem_mem hkq)
      rw [hx] at c0 hbody
      have htk : F.take (k + 1) = F.take k ++ [F[k]] := List.take_succ_eq_append_getElem hlt
      have hdk : F.drop k = F[k] :: F.drop (k + 1) := List.drop_eq_getElem_cons hlt
      obtain ⟨X, hX0⟩ : ∃ X, F[k] = X := ⟨_, rfl⟩
      obtain ⟨U, hU0⟩ : ∃ U, q[k].2 = U := ⟨_, rfl⟩
      rw [hX0] at c0 hbody htk hdk
      rw [hU0] at c1 hbody
      obtain ⟨U1, U3, rfl, -⟩ := hbody.open
      have hcat : (fcat (F.take (k + 1))).length = (fcat (F.take k)).length + (X.body.length + 11) := by rw [htk, fcat_snoc, List.length_append, fbytes_length]
      have hA2 : A + (X.body.length + 11) ≤ b.length := by have := HBD.out (k + 1); rw [hcat, ← HA.out] at this; exact this
      have hA3 : A + X.body.length + 11 ≤ 1048576 := by omega
      have HCAT := hid (show A + (X.body.length + 11) = (fcat (F.take (k + 1))).length by rw [hcat, ← HA.out])
      have HDK := hid hdk
      have HBD2 := hid hbody
      obtain ⟨z, er2, hz⟩ : ∃ z er2, recRead X = (z, er2) := ⟨_, _, rfl⟩
      have HZ := hid hz
      clear hcat htk hdk hbody hX0 hU0 hx hq hrow hBq hql hc1 hc2 hc3 hcell hkq hz
      go_wp2_with fail
      have C0 := hid c0
      have C1 := hid c1
      clear c0 c1
      refine (rread5_any X _ _ HBD2.out).mono ?_
      rintro e w2 ⟨r2, rfl, hr2, hw2⟩
      rw [HZ.out] at hr2 ⊢
      simp only [] at hr2
      obtain ⟨to, tc, rfl, -⟩ := hr2.vec.open
      have HX3 := hid (HE.out.trans hw2)
      have HO3 := hid (HO.out.ext hw2)
      have HI3 := hid (HI.out.ext hw2)
      have HF3 := hid (HF.out.ext hw2)
      have HR3 := hid (hr2.mono HE.out.size)
      by_cases her2 : er2 = 0
      · subst her2
        have hok := recs_ok (k := A) (x := X) (r := F.drop (k + 1)) (e := er) (by rw [HZ.out])
        rw [HZ.out] at hok
        simp only [] at hok
        have HOK := hid hok
        clear hok hr2
        have hx4 := Ext.alloc w2 (.cells #[.int .i64 z.kind, .slice to z.n.length tc, .string (str z.text)] 30)
        have c0 := hx4.cell (hw2.cell C0.out)
        have c1 := hx4.cell (hw2.cell C1.out)
        obtain ⟨d0, d1, d2⟩ := blk3 (heap_alloc_new w2 (.cells #[.int .i64 z.kind, .slice to z.n.length tc, .string (str z.text)] 30))
        have hblk : ((w2.alloc (.cells #[.int .i64 z.kind, .slice to z.n.length tc, .string (str z.text)] 30)).alloc (.cells #[.int .i64 z.kind, .slice to z.n.length tc, .string (str z.text)] 30)).heap[w2.heap.size + 1]? = some (.cells #[.int .i64 z.kind, .slice to z.n.length tc, .string (str z.text)] 30) := by
          have := heap_alloc_new (w2.alloc (.cells #[.int .i64 z.kind, .slice to z.n.length tc, .string (str z.text)] 30)) (.cells #[.int .i64 z.kind, .slice to z.n.length tc, .string (str z.text)] 30)
          rwa [World.size_alloc] at this
        have HBLK := hid hblk
        have hsz2 := HX3.out.size
        have hx5 := hx4.trans (Ext.alloc _ (.cells #[.int .i64 z.kind, .slice to z.n.length tc, .string (str z.text)] 30))
        have hN48 : (k + 1) * 48 ≤ 140737488355328 := by omega
        have hes : (k + 1) * 8 ≤ 140737488355328 := by omega
        have HO4 := hid (HO3.out.ext hx5)
        have HI4 := hid (HI3.out.ext hx5)
        have HF4 := hid (HF3.out.ext hx5)
        have HR4 := hid (HR3.out.ext hx5)
        have HX4 := hid (HX3.out.trans hx5)
        clear hblk hx4 hx5 hw2
        go_wp2_with (first
          | (at_builtin; refine wpList_append_rc rfl (.tmp 50) (.tmp 52) 43 rfl w.heap.size 30 Tryd.underlying43 infoRRc (by decide) rfl HO4.out rfl HBLK.out HR4.out (k + 1) (by rw [HM.out]) hN48 (by simp; omega) ?_; intro ao2 cap2 w3 hown2 hg2 hb2; obtain ⟨HO5, HI5, HF5, HX5⟩ := And.intro (hid hown2) (And.intro (hid (far_rcs HI4.out HO4.out (by decide) hg2)) (And.intro (hid (HF4.out.farRcs HO4.out (by decide) (by decide) hg2)) (hid (HX4.out.below hb2)))); have hsz3 := HX5.out.size; clear hown2 hg2 hb2)
          | (at_builtin; refine wpList_append_vec iv_one rfl (.tmp 54) (.tmp 56) 48 rfl w.heap.size 3 Tryd.underlying48 infoInt rfl rfl (HI5.out.ext (Ext.alloc _ _)) rfl (Vec.one _ _ _ (A + X.body.length + 11) (by simp)) (k + 1) (by rw [HES.out]; rfl) hes (by omega) (by simp; omega) ?_; intro ao3 cap3 w4 hown3 hg3 hb3))
        go_roundw
        case rel =>
          have hx6 := Ext.alloc w3 (.cells #[.int .i64 ((A : Int) + (X.body.length : Int) + 11)] 3)
          refine ⟨k + 1, A + (X.body.length + 11), m ++ [z], es ++ [A + (X.body.length + 11)], ao2, cap2, ao3, cap3, by omega, by go_num, by go_num, rfl, rfl, by omega, HCAT, hid (by simp [HM.out]), hid (by simp [HES.out]), hid ?_, hid ?_, hid ?_, hid ?_, (HX5.out.trans (Ext.alloc _ _)).below hb3⟩
          · exact RcsO.far (HO5.out.ext hx6) (HI5.out.ext hx6) (by decide) (by decide) hg3
          · exact hown3
          · exact (HF5.out.ext hx6).farRow (HI5.out.ext hx6) (by decide) (by decide) hg3
          · rw [HV.out, HDK.out, HOK.out]; simp
        case measure => simp [intOf]; omega
      · have he2 : (er2 != 0) = true := by simp [her2]
        have herr := recs_bad (k := A) (x := X) (r := F.drop (k + 1)) (e := er) (by rw [HZ.out]; exact her2)
        rw [HZ.out] at herr
        simp only [] at herr
        have HERR := hid herr
        clear herr her2 hr2 hw2
        go_wp2
        go_ret3
        unfold AllR5
        rw [HV.out, HDK.out, HERR.out]
        have hx := Ext.alloc w2 (.cells #[.int .i64 z.kind, .slice to z.n.length tc, .string (str z.text)] 30)
        refine ⟨_, _, rfl, ?_, ?_, HX3.out.trans hx⟩
        · simpa using HO3.out.ext hx
        · simpa using HI3.out.ext hx
    · obtain rfl : k = F.length := by omega
      have HV' : rall 0 b = (m, es, er) := by rw [HV.out, List.drop_of_length_le (Nat.le_refl _)]; simp [recs]
      have HV2 := hid HV'
      clear HV'
      go_wp2
      go_ret3
      unfold AllR5
      rw [HV2.out]
      exact ⟨_, _, rfl, HO.out, HI.out, HE.out⟩
end Go.Proofs.YtafdandnbbbdfaaDoor
