/- Package record: All. -/
import Derived.Test.YtiblhopjhpflpaaDoorRecL
set_option maxRecDepth 100000
namespace Go.Proofs.YtiblhopjhpflpaaDoor
open Go.RowKit Go.Tum Go.Tum.Crc Go.Tum.Vint

theorem ret_rall {x y : Value} {e f : Int} (k : e = f) : Ending.returned (.tuple #[x, y, .int .i64 e]) = .returned (.tuple #[x, y, .int .i64 f]) := by rw [k]

theorem far_rcs {α : Type} {f : α → Value} {w w' : World} {b b' e T : Nat} {u v : Value} {l : List α} {m : List Rc} (h : OwV f w b e v l) (ho : RcsO w b' T u m) (hne : e ≠ T) (hg : w.grownBy w' u.ownBlock) : OwV f w' b e v l := by
  obtain ⟨q, _, h2, _⟩ := ho
  exact rows_far h h2 hne hg

set_option maxRecDepth 100000 in
set_option maxHeartbeats 4000000 in
theorem all5_any (v : Value) (b : List UInt8) (w : World) (hb : Byt w v b) (hl : b.length ≤ 1048576) (ht : Tab w) :
    Calls Tryd.prog 35 #[v] w (AllR5 61 w b) := by
  obtain ⟨ao, cap, rfl, hle, hm, hnn, hcell⟩ := hb.open
  clear hcell
  have HN := hid hnn
  have HB := hid hb
  have HT := hid ht
  clear hb hnn ht
  go_enter Tryd.func35, Tryd.ntmps35
  go_wp2
  go_loopw [5, 6, 7] (fun o q i wr => ∃ (k : Nat) (m : List Rc) (es : List Nat) (bo : Option Addr) (cbp : Nat) (co : Option Addr) (ccp : Nat), k ≤ b.length ∧ i = .int .i64 k ∧ m.length ≤ k ∧ es.length ≤ k ∧ o = .slice bo m.length cbp ∧ q = .slice co es.length ccp ∧
      Hid (RcsO wr w.heap.size 61 (.slice bo m.length cbp) m) ∧ Hid (OwV iv wr w.heap.size 3 (.slice co es.length ccp) es) ∧
      Hid (rall 0 b = (m ++ (rall k (b.drop k)).1, es ++ (rall k (b.drop k)).2.1, (rall k (b.drop k)).2.2)) ∧ Hid (Ext w wr)) (fun _ _ i _ => b.length - (intOf i).toNat)
  case atStart => exact ⟨0, [], [], none, 0, none, 0, by omega, rfl, by simp, by simp, rfl, rfl, RcsO.nil _ _ _, World.ownsRow_nil _ _ _ _, hid (by simp), Ext.refl _⟩
  case round =>
    obtain ⟨k, m, es, bo, cbp, co, ccp, hk, rfl, hmk, hek, rfl, rfl, HO, HI, HV, HE⟩ := hrel
    by_cases hlt : k < b.length
    · obtain ⟨a, rfl⟩ := HN.out (by omega)
      have hp : Byt w (.slice (some (a.add k)) (b.length - k) (cap - k)) (b.drop k) := by
        have h := Byt.part HB.out k b.length (by omega) (Nat.le_refl _) (some (a.add k)) (by rw [if_neg (by omega)]; simp)
        rwa [List.take_of_length_le (by simp)] at h
      have HP := hid hp
      have hne : b.drop k ≠ [] := by intro h; have := congrArg List.length h; simp at this; omega
      obtain ⟨y, n, er, hfr⟩ : ∃ y n er, fread (b.drop k) = (y, n, er) := ⟨_, _, _, rfl⟩
      clear hp
      go_wp2_with fail
      refine (read_any _ (b.drop k) _ (HP.out.ext HE.out) (by simp; omega)).mono ?_
      rintro e w1 ⟨r, rfl, hr, hw1⟩
      rw [hfr] at hr ⊢
      simp only [] at hr
      have hE1 := HE.out.trans hw1
      obtain ⟨so, sc, rfl, -, -, -, -⟩ := hr.byt.open
      by_cases her : er = 0
      · subst her
        have hn := fread_le (b.drop k) (by rw [hfr])
        rw [hfr] at hn
        simp only [List.length_drop] at hn
        obtain ⟨z, er2, hrd⟩ : ∃ z er2, recRead y = (z, er2) := ⟨_, _, rfl⟩
        have HFR := hid hfr
        have HRD := hid hrd
        have HNE := hid hne
        have HO1 := hid (HO.out.ext hw1)
        have HI1 := hid (HI.out.ext hw1)
        have HR1 := hid (hr.mono HE.out.size)
        have HX1 := hid hE1
        clear hfr hrd hr hw1 hE1 hne
        obtain ⟨c0, c1, -⟩ := blk2 (heap_alloc_new w1 (.cells #[.int .u8 (y.kind.toNat : Int), .slice so y.body.length sc] 87))
        go_wp2_with fail
        have hE2 := Ext.alloc w1 (.cells #[.int .u8 (y.kind.toNat : Int), .slice so y.body.length sc] 87)
        generalize w1.alloc (.cells #[.int .u8 (y.kind.toNat : Int), .slice so y.body.length sc] 87) = W1 at *
        have HX2 := hid (HX1.out.trans hE2)
        have HO2 := hid (HO1.out.ext hE2)
        have HI2 := hid (HI1.out.ext hE2)
        have HR2 := hid (HR1.out.ext hE2)
        clear hE2 c0 c1
        refine (read5_any y (.slice so y.body.length sc) _ HR2.out.byt (HT.out.ext HX2.out)).mono ?_
        rintro e w2 ⟨r2, rfl, hr2, hw2⟩
        rw [HRD.out] at hr2 ⊢
        simp only [] at hr2
        obtain ⟨to, tc, rfl, -⟩ := hr2.vec.open
        have HX3 := hid (HX2.out.trans hw2)
        have HO3 := hid (HO2.out.ext hw2)
        have HI3 := hid (HI2.out.ext hw2)
        have HR3 := hid (hr2.mono HX2.out.size)
        clear hr2 hw2
        by_cases her2 : er2 = 0
        · subst her2
          have hok := rall_ok (k := k) HNE.out (by rw [HFR.out]) (by rw [HFR.out, HRD.out])
          rw [HFR.out] at hok
          simp only [HRD.out, List.drop_drop] at hok
          have HOK := hid hok
          clear hok
          obtain ⟨d0, d1, d2⟩ := blk3 (heap_alloc_new w2 (.cells #[.int .i64 z.kind, .slice to z.n.length tc, .string (str z.text)] 61))
          have hblk : ((w2.alloc (.cells #[.int .i64 z.kind, .slice to z.n.length tc, .string (str z.text)] 61)).alloc (.cells #[.int .i64 z.kind, .slice to z.n.length tc, .string (str z.text)] 61)).heap[w2.heap.size + 1]? = some (.cells #[.int .i64 z.kind, .slice to z.n.length tc, .string (str z.text)] 61) := by
            have := heap_alloc_new (w2.alloc (.cells #[.int .i64 z.kind, .slice to z.n.length tc, .string (str z.text)] 61)) (.cells #[.int .i64 z.kind, .slice to z.n.length tc, .string (str z.text)] 61)
            rwa [World.size_alloc] at this
          have HBLK := hid hblk
          have hsz2 := HX3.out.size
          clear hblk
          have hN48 : (m.length + 1) * 48 ≤ 140737488355328 := by omega
          have HO4 := hid ((HO3.out.ext (Ext.alloc _ (.cells #[.int .i64 z.kind, .slice to z.n.length tc, .string (str z.text)] 61))).ext (Ext.alloc _ (.cells #[.int .i64 z.kind, .slice to z.n.length tc, .string (str z.text)] 61)))
          have HI4 := hid ((HI3.out.ext (Ext.alloc _ (.cells #[.int .i64 z.kind, .slice to z.n.length tc, .string (str z.text)] 61))).ext (Ext.alloc _ (.cells #[.int .i64 z.kind, .slice to z.n.length tc, .string (str z.text)] 61)))
          have HR4 := hid ((HR3.out.ext (Ext.alloc _ (.cells #[.int .i64 z.kind, .slice to z.n.length tc, .string (str z.text)] 61))).ext (Ext.alloc _ (.cells #[.int .i64 z.kind, .slice to z.n.length tc, .string (str z.text)] 61)))
          have HX4 := hid ((HX3.out.trans (Ext.alloc _ (.cells #[.int .i64 z.kind, .slice to z.n.length tc, .string (str z.text)] 61))).trans (Ext.alloc _ (.cells #[.int .i64 z.kind, .slice to z.n.length tc, .string (str z.text)] 61)))
          have hes : (es.length + 1) * 8 ≤ 140737488355328 := by omega
          go_wp2_with (first
            | (at_builtin; refine wpList_append_rc rfl (.tmp 42) (.tmp 44) 75 rfl w.heap.size 61 Tryd.underlying75 infoRc (by decide) rfl HO4.out rfl HBLK.out HR4.out (m.length + 1) rfl hN48 (by simp; omega) ?_; intro ao2 cap2 w3 hown2 hg2 hb2; obtain ⟨HO5, HI5, HX5⟩ := And.intro (hid hown2) (And.intro (hid (far_rcs HI4.out HO4.out (by decide) hg2)) (hid (HX4.out.below hb2))); have hsz3 := HX5.out.size; clear hown2 hg2 hb2)
            | (at_builtin; refine wpList_append_vec iv_one rfl (.tmp 46) (.tmp 48) 34 rfl w.heap.size 3 Tryd.underlying34 infoInt rfl rfl (HI5.out.ext (Ext.alloc _ _)) rfl (Vec.one _ _ _ (k + n) (by simp)) (es.length + 1) (by simp) hes (by omega) (by simp; omega) ?_; intro ao3 cap3 w4 hown3 hg3 hb3))
          go_roundw
          case rel =>
            refine ⟨k + n, m ++ [z], es ++ [k + n], ao2, cap2, ao3, cap3, by omega, by go_num, by simp; omega, by simp; omega, by simp, by simp, hid ?_, hid ?_, hid ?_, (HX5.out.trans (Ext.alloc _ _)).below hb3⟩
            · have := RcsO.far (HO5.out.ext (Ext.alloc _ (.cells #[.int .i64 ((k : Int) + (n : Int))] 3))) (HI5.out.ext (Ext.alloc _ _)) (by decide) (by decide) hg3
              simpa using this
            · simpa using hown3
            · rw [HV.out, HOK.out]; simp
          case measure => simp [intOf]; omega
        · have he2 : (er2 != 0) = true := by simp [her2]
          have herr := rall_form (k := k) HNE.out (by rw [HFR.out]) (by rw [HFR.out, HRD.out]; exact her2)
          rw [HFR.out] at herr
          simp only [HRD.out] at herr
          have HERR := hid herr
          clear herr her2
          go_wp2
          go_ret3
          unfold AllR5
          rw [HV.out, HERR.out]
          have hx := Ext.alloc w2 (.cells #[.int .i64 z.kind, .slice to z.n.length tc, .string (str z.text)] 61)
          refine ⟨_, _, rfl, ?_, ?_, HX3.out.trans hx⟩
          · simpa using HO3.out.ext hx
          · simpa using HI3.out.ext hx
      · have he' : (er != 0) = true := by simp [her]
        have herr := rall_bad (k := k) hne (by rw [hfr]; exact her)
        rw [hfr] at herr
        have HERR := hid herr
        have HO1 := hid (HO.out.ext hw1)
        have HI1 := hid (HI.out.ext hw1)
        have HX1 := hid hE1
        clear hfr herr hr hw1 hne her hE1
        go_wp2
        go_ret3
        unfold AllR5
        rw [HV.out, HERR.out]
        have hx := Ext.alloc w1 (.cells #[.int .u8 (y.kind.toNat : Int), .slice so y.body.length sc] 87)
        refine ⟨_, _, rfl, ?_, ?_, HX1.out.trans hx⟩
        · simpa using HO1.out.ext hx
        · simpa using HI1.out.ext hx
    · obtain rfl : k = b.length := by omega
      have HV' : rall 0 b = (m, es, 0) := by rw [HV.out, List.drop_of_length_le (Nat.le_refl _), rall_nil]; simp
      have HV2 := hid HV'
      clear HV'
      go_wp2
      go_ret3
      unfold AllR5
      rw [HV2.out]
      exact ⟨_, _, rfl, HO.out, HI.out, HE.out⟩
end Go.Proofs.YtiblhopjhpflpaaDoor
