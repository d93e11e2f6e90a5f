/- Package frame: All. -/
import Derived.Test.YtbecahknondmeaaFrmL
import Derived.Outline
import Derived.WalkMore
namespace Go.Proofs.Ytbecahknondmeaa
open Go.RowKit Go.Tum Go.Tum.Crc

theorem infoFr : (Try.prog.info? 24).map (fun i => (i.zero, i.size, i.bytes)) = some (some (.agg #[.int .u8 0, .slice none 0 0]), 2, 32) := by kernel_rfl

theorem ret_all {x : Value} {n m e f : Int} (h : n = m) (k : e = f) : Ending.returned (.tuple #[x, .int .i64 n, .int .i64 e]) = .returned (.tuple #[x, .int .i64 m, .int .i64 f]) := by rw [h, k]

/-- What All answers. -/
def AllR (T : Nat) (w : World) (b : List UInt8) (e : Ending) (w' : World) : Prop :=
  ∃ r, e = .returned (.tuple #[r, .int .i64 ((fall b).2.1 : Nat), .int .i64 (fall b).2.2]) ∧ FrsO w' w.heap.size T r (fall b).1 ∧ Ext w w'

set_option maxRecDepth 100000 in
set_option maxHeartbeats 1000000 in
theorem all_any (v : Value) (b : List UInt8) (w : World) (hb : Byt w v b) (hl : b.length ≤ 1048576) :
    Calls Try.prog 13 #[v] w (AllR 24 w b) := by
  obtain ⟨ao, cap, rfl, hle, hm, hnn, hcell⟩ := hb.open
  clear hcell
  have HN := hid hnn
  have HB := hid hb
  clear hb hnn
  go_enter Try.func13, Try.ntmps13
  go_wp2
  go_step3
  go_wp2
  go_step3
  go_wp2
  go_loopw [5, 6, 7] (fun o i er wr => ∃ (k : Nat) (m : List Fr) (bo : Option Addr) (cbp : Nat), k ≤ b.length ∧ i = .int .i64 k ∧ er = .int .i64 0 ∧ m.length ≤ k ∧ o = .slice bo m.length cbp ∧ Hid (FrsO wr w.heap.size 24 (.slice bo m.length cbp) m) ∧
      Hid (fall b = (m ++ (fall (b.drop k)).1, k + (fall (b.drop k)).2.1, (fall (b.drop k)).2.2)) ∧ Hid (Ext w wr)) (fun _ i _ _ => b.length - (intOf i).toNat)
  case atStart => exact ⟨0, [], none, 0, by omega, rfl, rfl, by simp, rfl, FrsO.nil _ _ _, hid (by simp), Ext.refl _⟩
  case round =>
    obtain ⟨k, m, bo, cbp, hk, rfl, rfl, hmk, rfl, HO, HV, HE⟩ := hrel
    by_cases hlt : k < b.length
    · obtain ⟨a, rfl⟩ := HN.out (by omega)
      have hp : Byt w (.slice (some (a.add k)) (b.length - k) (cap - k)) (b.drop k) := by
        have h := Byt.part HB.out k b.length (by omega) (Nat.le_refl _) (some (a.add k)) (by rw [if_neg (by omega)]; simp)
        rwa [List.take_of_length_le (by simp)] at h
      have HP := hid hp
      have hne : b.drop k ≠ [] := by intro h; have := congrArg List.length h; simp at this; omega
      obtain ⟨y, n, er, hfr⟩ : ∃ y n er, fread (b.drop k) = (y, n, er) := ⟨_, _, _, rfl⟩
      have HSZ := hid HE.out.size
      clear hp
      go_wp2_with fail
      refine (read_any _ (b.drop k) _ (HP.out.ext HE.out) (by simp; omega)).mono ?_
      rintro e w1 ⟨r, rfl, hr, hw1⟩
      rw [hfr] at hr ⊢
      simp only [] at hr
      have hE1 := HE.out.trans hw1
      have hsz1 := hE1.size
      have hrm := hr.mono HE.out.size
      obtain ⟨so, sc, rfl, -, -, -, -⟩ := hr.byt.open
      by_cases her : er = 0
      · subst her
        have hn := fread_le (b.drop k) (by rw [hfr])
        have hok := fall_ok hne (by rw [hfr])
        rw [hfr] at hn hok
        simp only [List.length_drop, List.drop_drop] at hn hok
        have HOK := hid hok
        have HO1 := hid (HO.out.ext hw1)
        have HR1 := hid hrm
        have HX1 := hid hE1
        clear hfr hok hr hrm hw1 hE1 hne
        have hblk : ((w1.alloc (.cells #[.int .u8 (y.kind.toNat : Int), .slice so y.body.length sc] 24)).alloc (.cells #[.int .u8 (y.kind.toNat : Int), .slice so y.body.length sc] 24)).heap[w1.heap.size + 1]? = some (.cells #[.int .u8 (y.kind.toNat : Int), .slice so y.body.length sc] 24) := by
          have := heap_alloc_new (w1.alloc (.cells #[.int .u8 (y.kind.toNat : Int), .slice so y.body.length sc] 24)) (.cells #[.int .u8 (y.kind.toNat : Int), .slice so y.body.length sc] 24)
          rwa [World.size_alloc] at this
        have HBLK := hid hblk
        clear hblk
        have hN32 : (m.length + 1) * 32 ≤ 140737488355328 := by omega
        go_wp2_with (at_builtin; refine wpList_append_fr rfl (.tmp 27) (.tmp 29) 35 rfl w.heap.size 24 Try.underlying35 infoFr (by decide) rfl ((HO1.out.ext (Ext.alloc _ _)).ext (Ext.alloc _ _)) rfl HBLK.out ((HR1.out.ext (Ext.alloc _ _)).ext (Ext.alloc _ _)) (m.length + 1) rfl hN32 (by simp; omega) ?_; intro ao2 cap2 w2 hown2 hg2 hb2)
        go_roundw
        case rel => exact ⟨k + n, m ++ [y], ao2, cap2, by omega, by go_num, rfl, by simp; omega, by simp, hid (by simpa using hown2), hid (by rw [HV.out, HOK.out]; simp [Nat.add_assoc]), (((HX1.out.trans (Ext.alloc _ _)).trans (Ext.alloc _ _)).below (hb2.mono (by omega)))⟩
        case measure => simp [intOf]; omega
      · have he' : (er == 0) = false := by simp [her]
        have herr := fall_err hne (by rw [hfr]; exact her)
        have hl0 := fread_err (b.drop k) (by rw [hfr]; exact her)
        rw [hfr] at herr
        have HERR := hid herr
        have HO1 := hid (HO.out.ext hw1)
        clear hfr herr hr hrm hw1 hne her hl0
        go_wp2
        rw [Exit.noGoto_ret]
        go_ret3
        refine ⟨_, ret_all (by rw [HV.out, HERR.out]; simp) (by rw [HV.out, HERR.out]), ?_, hE1.trans (Ext.alloc _ _)⟩
        rw [HV.out, HERR.out]
        simpa using HO1.out.ext (Ext.alloc _ _)
    · obtain rfl : k = b.length := by omega
      have HV' : fall b = (m, b.length, 0) := by rw [HV.out, List.drop_of_length_le (Nat.le_refl _), fall_nil]; simp
      have HV2 := hid HV'
      clear HV'
      go_wp2
      rw [Exit.noGoto_ret]
      go_ret3
      refine ⟨_, ret_all (by rw [HV2.out]) (by rw [HV2.out]), ?_, HE.out⟩
      rw [HV2.out]
      exact HO.out
end Go.Proofs.Ytbecahknondmeaa
