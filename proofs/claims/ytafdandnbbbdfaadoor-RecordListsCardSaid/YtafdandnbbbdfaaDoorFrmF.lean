/- The document's frames: All, Same; the statement's own. -/
import Derived.Test.YtafdandnbbbdfaaDoorFrmE
import Derived.Test.YtafdandnbbbdfaaDoorFrmL
namespace Go.Proofs.YtafdandnbbbdfaaDoor
open Go.RowKit Go.Tum Go.Tum.Crc

theorem infoRFr : (Tryd.prog.info? 39).map (fun i => (i.zero, i.size, i.bytes)) = some (some (.agg #[.int .u8 0, .slice none 0 0]), 2, 32) := by kernel_rfl

set_option maxRecDepth 100000 in
set_option maxHeartbeats 1000000 in
theorem rfall_any (v : Value) (b : List UInt8) (w : World) (hb : Byt w v b) (hl : b.length ≤ 1048576) :
    Calls Tryd.prog 36 #[v] w (AllR 39 w b) := by
  obtain ⟨ao, cap, rfl, hle, hm, hnn, hcell⟩ := hb.open
  clear hcell
  have HN := hid hnn
  have HB := hid hb
  clear hb hnn
  go_enter Tryd.func36, Tryd.ntmps36
  go_wp2
  go_loopw [5, 6] (fun o i wr => ∃ (k : Nat) (m : List Fr) (bo : Option Addr) (cbp : Nat), k ≤ b.length ∧ i = .int .i64 k ∧ m.length ≤ k ∧ o = .slice bo m.length cbp ∧ Hid (FrsO wr w.heap.size 39 (.slice bo m.length cbp) m) ∧
      Hid (fall b = (m ++ (fall (b.drop k)).1, k + (fall (b.drop k)).2.1, (fall (b.drop k)).2.2)) ∧ Hid (Ext w wr)) (fun _ i _ => b.length - (intOf i).toNat)
  case atStart => exact ⟨0, [], some ⟨w.heap.size, 0, none⟩, 0, by omega, rfl, by simp, rfl, FrsO.lit0 w _ _ (Nat.le_refl _), hid (by simp), Ext.alloc _ _⟩
  case round =>
    obtain ⟨k, m, bo, cbp, hk, rfl, hmk, rfl, HO, HV, HE⟩ := hrel
    by_cases hlt : k < b.length
    · obtain ⟨a, rfl⟩ := HN.out (by omega)
      have hp : Byt w (.slice (some (a.add k)) (b.length - k) (cap - k)) (b.drop k) := by
        have h := Byt.part HB.out k b.length (by omega) (Nat.le_refl _) (some (a.add k)) (by rw [if_neg (by omega)]; simp)
        rwa [List.take_of_length_le (by simp)] at h
      have HP := hid hp
      have hne : b.drop k ≠ [] := by intro h; have := congrArg List.length h; simp at this; omega
      obtain ⟨y, n, er, hfr⟩ : ∃ y n er, fread (b.drop k) = (y, n, er) := ⟨_, _, _, rfl⟩
      have HSZ := hid HE.out.size
      clear hp
      go_wp2_with fail
      refine (rread_any _ (b.drop k) _ (HP.out.ext HE.out) (by simp; omega)).mono ?_
      rintro e w1 ⟨r, rfl, hr, hw1⟩
      rw [hfr] at hr ⊢
      simp only [] at hr
      have hE1 := HE.out.trans hw1
      have hsz1 := hE1.size
      have hrm := hr.mono HE.out.size
      obtain ⟨so, sc, rfl, -, -, -, -⟩ := hr.byt.open
      by_cases her : er = 0
      · subst her
        have hn := fread_le (b.drop k) (by rw [hfr])
        have hok := fall_ok hne (by rw [hfr])
        rw [hfr] at hn hok
        simp only [List.length_drop, List.drop_drop] at hn hok
        have HOK := hid hok
        have HO1 := hid (HO.out.ext hw1)
        have HR1 := hid hrm
        have HX1 := hid hE1
        clear hfr hok hr hrm hw1 hE1 hne
        have hblk : ((w1.alloc (.cells #[.int .u8 (y.kind.toNat : Int), .slice so y.body.length sc] 39)).alloc (.cells #[.int .u8 (y.kind.toNat : Int), .slice so y.body.length sc] 39)).heap[w1.heap.size + 1]? = some (.cells #[.int .u8 (y.kind.toNat : Int), .slice so y.body.length sc] 39) := by
          have := heap_alloc_new (w1.alloc (.cells #[.int .u8 (y.kind.toNat : Int), .slice so y.body.length sc] 39)) (.cells #[.int .u8 (y.kind.toNat : Int), .slice so y.body.length sc] 39)
          rwa [World.size_alloc] at this
        have HBLK := hid hblk
        clear hblk
        have hN32 : (m.length + 1) * 32 ≤ 140737488355328 := by omega
        go_wp2_with (at_builtin; refine wpList_append_fr rfl (.tmp 28) (.tmp 30) 72 rfl w.heap.size 39 Tryd.underlying72 infoRFr (by decide) rfl ((HO1.out.ext (Ext.alloc _ _)).ext (Ext.alloc _ _)) rfl HBLK.out ((HR1.out.ext (Ext.alloc _ _)).ext (Ext.alloc _ _)) (m.length + 1) rfl hN32 (by simp; omega) ?_; intro ao2 cap2 w2 hown2 hg2 hb2)
        go_roundw
        case rel => exact ⟨k + n, m ++ [y], ao2, cap2, by omega, by go_num, by simp; omega, by simp, hid (by simpa using hown2), hid (by rw [HV.out, HOK.out]; simp [Nat.add_assoc]), (((HX1.out.trans (Ext.alloc _ _)).trans (Ext.alloc _ _)).below (hb2.mono (by omega)))⟩
        case measure => simp [intOf]; omega
      · have he' : (er != 0) = true := by simp [her]
        have herr := fall_err hne (by rw [hfr]; exact her)
        have hl0 := fread_err (b.drop k) (by rw [hfr]; exact her)
        rw [hfr] at herr
        have HERR := hid herr
        have HO1 := hid (HO.out.ext hw1)
        clear hfr herr hr hrm hw1 hne her hl0
        go_wp2
        go_ret3
        refine ⟨_, ret_all (by rw [HV.out, HERR.out]; simp) (by rw [HV.out, HERR.out]), ?_, hE1.trans (Ext.alloc _ _)⟩
        rw [HV.out, HERR.out]
        simpa using HO1.out.ext (Ext.alloc _ _)
    · obtain rfl : k = b.length := by omega
      have HV' : fall b = (m, b.length, 0) := by rw [HV.out, List.drop_of_length_le (Nat.le_refl _), fall_nil]; simp
      have HV2 := hid HV'
      clear HV'
      go_wp2
      go_ret3
      refine ⟨_, ret_all (by rw [HV2.out]) (by rw [HV2.out]), ?_, HE.out⟩
      rw [HV2.out]
      exact HO.out
end Go.Proofs.YtafdandnbbbdfaaDoor
