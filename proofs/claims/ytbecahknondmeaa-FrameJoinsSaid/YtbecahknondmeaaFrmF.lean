/- The document's frames: All, Same; the statement's own. -/
import Derived.Test.YtbecahknondmeaaFrmE
import Derived.Test.YtbecahknondmeaaFrmC
namespace Go.Proofs.Ytbecahknondmeaa
open Go.RowKit Go.Tum Go.Tum.Crc

theorem infoRFr : (Try.prog.info? 30).map (fun i => (i.zero, i.size, i.bytes)) = some (some (.agg #[.int .u8 0, .slice none 0 0]), 2, 32) := by kernel_rfl

set_option maxRecDepth 100000 in
set_option maxHeartbeats 1000000 in
theorem rall_any (v : Value) (b : List UInt8) (w : World) (hb : Byt w v b) (hl : b.length ≤ 1048576) :
    Calls Try.prog 14 #[v] w (AllR 30 w b) := by
  obtain ⟨ao, cap, rfl, hle, hm, hnn, hcell⟩ := hb.open
  clear hcell
  have HN := hid hnn
  have HB := hid hb
  clear hb hnn
  go_enter Try.func14, Try.ntmps14
  go_wp2
  go_loopw [5, 6] (fun o i wr => ∃ (k : Nat) (m : List Fr) (bo : Option Addr) (cbp : Nat), k ≤ b.length ∧ i = .int .i64 k ∧ m.length ≤ k ∧ o = .slice bo m.length cbp ∧ Hid (FrsO wr w.heap.size 30 (.slice bo m.length cbp) m) ∧
      Hid (fall b = (m ++ (fall (b.drop k)).1, k + (fall (b.drop k)).2.1, (fall (b.drop k)).2.2)) ∧ Hid (Ext w wr)) (fun _ i _ => b.length - (intOf i).toNat)
  case atStart => exact ⟨0, [], some ⟨w.heap.size, 0, none⟩, 0, by omega, rfl, by simp, rfl, FrsO.lit0 w _ _ (Nat.le_refl _), hid (by simp), Ext.alloc _ _⟩
  case round =>
    obtain ⟨k, m, bo, cbp, hk, rfl, hmk, rfl, HO, HV, HE⟩ := hrel
    by_cases hlt : k < b.length
    · obtain ⟨a, rfl⟩ := HN.out (by omega)
      have hp : Byt w (.slice (some (a.add k)) (b.length - k) (cap - k)) (b.drop k) := by
        have h := Byt.part HB.out k b.length (by omega) (Nat.le_refl _) (some (a.add k)) (by rw [if_neg (by omega)]; simp)
        rwa [List.take_of_length_le (by simp)] at h
      have HP := hid hp
      have hne : b.drop k ≠ [] := by intro h; have := congrArg List.length h; simp at this; omega
      obtain ⟨y, n, er, hfr⟩ : ∃ y n er, fread (b.drop k) = (y, n, er) := ⟨_, _, _, rfl⟩
      have HSZ := hid HE.out.size
      clear hp
      go_wp2_with fail
      refine (rread_any _ (b.drop k) _ (HP.out.ext HE.out) (by simp; omega)).mono ?_
      rintro e w1 ⟨r, rfl, hr, hw1⟩
      rw [hfr] at hr ⊢
      simp only [] at hr
      have hE1 := HE.out.trans hw1
      have hsz1 := hE1.size
      have hrm := hr.mono HE.out.size
      obtain ⟨so, sc, rfl, -, -, -, -⟩ := hr.byt.open
      by_cases her : er = 0
      · subst her
        have hn := fread_le (b.drop k) (by rw [hfr])
        have hok := fall_ok hne (by rw [hfr])
        rw [hfr] at hn hok
        simp only [List.length_drop, List.drop_drop] at hn hok
        have HOK := hid hok
        have HO1 := hid (HO.out.ext hw1)
        have HR1 := hid hrm
        have HX1 := hid hE1
        clear hfr hok hr hrm hw1 hE1 hne
        have hblk : ((w1.alloc (.cells #[.int .u8 (y.kind.toNat : Int), .slice so y.body.length sc] 30)).alloc (.cells #[.int .u8 (y.kind.toNat : Int), .slice so y.body.length sc] 30)).heap[w1.heap.size + 1]? = some (.cells #[.int .u8 (y.kind.toNat : Int), .slice so y.body.length sc] 30) := by
          have := heap_alloc_new (w1.alloc (.cells #[.int .u8 (y.kind.toNat : Int), .slice so y.body.length sc] 30)) (.cells #[.int .u8 (y.kind.toNat : Int), .slice so y.body.length sc] 30)
          rwa [World.size_alloc] at this
        have HBLK := hid hblk
        clear hblk
        have hN32 : (m.length + 1) * 32 ≤ 140737488355328 := by omega
        go_wp2_with (at_builtin; refine wpList_append_fr rfl (.tmp 28) (.tmp 30) 38 rfl w.heap.size 30 Try.underlying38 infoRFr (by decide) rfl ((HO1.out.ext (Ext.alloc _ _)).ext (Ext.alloc _ _)) rfl HBLK.out ((HR1.out.ext (Ext.alloc _ _)).ext (Ext.alloc _ _)) (m.length + 1) rfl hN32 (by simp; omega) ?_; intro ao2 cap2 w2 hown2 hg2 hb2)
        go_roundw
        case rel => exact ⟨k + n, m ++ [y], ao2, cap2, by omega, by go_num, by simp; omega, by simp, hid (by simpa using hown2), hid (by rw [HV.out, HOK.out]; simp [Nat.add_assoc]), (((HX1.out.trans (Ext.alloc _ _)).trans (Ext.alloc _ _)).below (hb2.mono (by omega)))⟩
        case measure => simp [intOf]; omega
      · have he' : (er != 0) = true := by simp [her]
        have herr := fall_err hne (by rw [hfr]; exact her)
        have hl0 := fread_err (b.drop k) (by rw [hfr]; exact her)
        rw [hfr] at herr
        have HERR := hid herr
        have HO1 := hid (HO.out.ext hw1)
        clear hfr herr hr hrm hw1 hne her hl0
        go_wp2
        go_ret3
        refine ⟨_, ret_all (by rw [HV.out, HERR.out]; simp) (by rw [HV.out, HERR.out]), ?_, hE1.trans (Ext.alloc _ _)⟩
        rw [HV.out, HERR.out]
        simpa using HO1.out.ext (Ext.alloc _ _)
    · obtain rfl : k = b.length := by omega
      have HV' : fall b = (m, b.length, 0) := by rw [HV.out, List.drop_of_length_le (Nat.le_refl _), fall_nil]; simp
      have HV2 := hid HV'
      clear HV'
      go_wp2
      go_ret3
      refine ⟨_, ret_all (by rw [HV2.out]) (by rw [HV2.out]), ?_, HE.out⟩
      rw [HV2.out]
      exact HO.out

set_option maxRecDepth 100000 in
set_option maxHeartbeats 1000000 in
theorem own_any (v : Value) (l : List Fr) (w : World) (hb : Frs w v l) (hl : l.length ≤ 1048576) :
    Calls Try.prog 17 #[v] w fun e w' => ∃ r, e = .returned r ∧ Frs w' r l ∧ Ext w w' := by
  obtain ⟨m, hm, hr, hB⟩ := hb
  obtain ⟨ao, cap, rfl, hc1, hc2, hc3, hcell⟩ := hr.open
  have HC := hid hcell
  have HB := hid hB
  have hml : m.length = l.length := by rw [← hm]; simp
  have HM := hid hm
  have hml2 : m.length ≤ 1048576 := by omega
  clear hcell hB hr hm hml hl
  go_enter Try.func17, Try.ntmps17
  go_wp2
  go_loopw [3, 9] (fun o i wr => ∃ (k : Nat) (bo : Option Addr) (cbp : Nat), k ≤ m.length ∧ i = .int .i64 k ∧ o = .slice bo k cbp ∧ Hid (wr.ownsRow w.heap.size 30 2 (.slice bo k cbp) k ((m.take k).flatMap fcells)) ∧ Hid (Ext w wr)) (fun _ i _ => m.length - (intOf i).toNat)
  case atStart => exact ⟨0, some ⟨w.heap.size, 0, none⟩, 0, by omega, rfl, rfl, hid (by simpa using World.ownsRow_lit (base := w.heap.size) (e := 30) (size := 2) w #[] 0 (Nat.le_refl _) (by simp [maxLen]) (by simp)), Ext.alloc _ _⟩
  case round =>
    obtain ⟨k, bo, cbp, hk, rfl, rfl, HO, HE⟩ := hrel
    by_cases hlt : k < m.length
    · obtain ⟨a, rfl⟩ := hc3 (by omega)
      have c0 := cell_first (HE.out.cell (HC.out a rfl k hlt 0 _ rfl))
      have c1 := cell_next (HE.out.cell (HC.out a rfl k hlt 1 _ rfl)) (by decide)
      obtain ⟨qa, qc, hq, -⟩ := (HB.out m[k] (List.getElem_mem hlt)).open
      obtain ⟨qn, hqn⟩ : ∃ n, n = m[k].1.body.length := ⟨_, rfl⟩
      rw [← hqn] at hq
      obtain ⟨k0, hk0⟩ : ∃ q, q = (m[k].1.kind.toNat : Int) := ⟨_, rfl⟩
      rw [← hk0] at c0
      rw [hq] at c1
      have hq0 : Value.slice qa qn qc = m[k].2 := hq.symm
      have hsnoc : (m.take (k + 1)).flatMap fcells = (m.take k).flatMap fcells ++ [.int .u8 k0, .slice qa qn qc] := by
        rw [List.take_succ_eq_append_getElem hlt, List.flatMap_append, hq0, hk0]; simp
      have HS := hid hsnoc
      have hblk : ((wr.alloc (.cells #[.int .u8 k0, .slice qa qn qc] 24)).alloc (.cells #[.int .u8 k0, .slice qa qn qc] 30)).heap[wr.heap.size + 1]? = some (.cells #[.int .u8 k0, .slice qa qn qc] 30) := by
        have := heap_alloc_new (wr.alloc (.cells #[.int .u8 k0, .slice qa qn qc] 24)) (.cells #[.int .u8 k0, .slice qa qn qc] 30)
        rwa [World.size_alloc] at this
      have HBLK := hid hblk
      have hN32 : (k + 1) * 32 ≤ 140737488355328 := by omega
      have hsz := HE.out.size
      clear hblk hsnoc hq0 hk0 hq hqn
      go_wp2_with (at_builtin; refine wpList_append_row2 rfl (.tmp 13) (.tmp 15) 38 rfl w.heap.size 30 Try.underlying38 infoRFr rfl ((Ext.alloc _ _).owns ((Ext.alloc _ _).owns HO.out)) rfl HBLK.out rfl rfl hN32 (by simp; omega) ?_; intro ao2 cap2 w2 hown2 hg2 hb2)
      go_roundw
      case rel => exact ⟨k + 1, ao2, cap2, by omega, by go_num, rfl, hid (by rw [HS.out]; exact hown2), ((HE.out.trans (Ext.alloc _ _)).trans (Ext.alloc _ _)).below (hb2.mono (by omega))⟩
      case measure => simp [intOf]; omega
    · obtain rfl : k = m.length := by omega
      go_wp2
      go_ret
      have h1 := HO.out
      rw [List.take_length] at h1
      exact ⟨_, rfl, ⟨m, HM.out, ⟨fun _ _ => rfl, Sl.of_owns h1⟩, fun p hp => (HB.out p hp).ext HE.out⟩, HE.out⟩
end Go.Proofs.Ytbecahknondmeaa
