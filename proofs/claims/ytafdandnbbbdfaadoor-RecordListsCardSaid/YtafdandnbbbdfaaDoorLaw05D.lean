/- RecordLists. -/
import Derived.Test.YtafdandnbbbdfaaDoorLaw05
import Derived.Test.YtafdandnbbbdfaaDoorRecH
import Derived.Test.YtafdandnbbbdfaaDoorRecI
namespace Go.Tum.Crc
open Go.Tum Go.Tum.Vint
theorem recs_len : ∀ (l : List Fr) (k : Nat) (e : Int), (recs k l e).1.length ≤ l.length
  | [], _, _ => by simp [recs]
  | x :: r, k, e => by
    have := recs_len r (k + (x.body.length + 11)) e
    simp only [recs]
    split
    · simp
    · simp only [List.length_cons]; omega
theorem rall_len (b : List UInt8) : (rall 0 b).1.length ≤ b.length := by
  rw [← recs_fall]
  have h1 := recs_len (fall b).1 0 (fall b).2.2
  have h2 := fall_le b
  omega
end Go.Tum.Crc
namespace Go.Proofs.YtafdandnbbbdfaaDoor
open Go.RowKit Go.Tum Go.Tum.Crc Go.Tum.Vint

set_option maxRecDepth 100000 in
set_option maxHeartbeats 1000000 in
theorem recordLists_law (v : Value) (b : List UInt8) (w : World) (hb : Byt w v b) (ht : Tab w) :
    Calls Tryd.prog 4 #[v] w fun e w' => e = .returned (.bool true) ∧ Ext w w' := by
  obtain ⟨vo, vc, rfl, -⟩ := hb.open
  have HB := hid hb
  have HT := hid ht
  clear hb ht
  go_enter Tryd.func4, Tryd.ntmps4
  go_wp2_with fail
  refine (awake_any _ HT.out).mono ?_
  rintro e w1 ⟨rfl, hw⟩
  have HE1 := hid hw
  clear hw
  by_cases h1 : 1200 < b.length
  · have hd : decide ((1200 : Int) < b.length) = true := by simp; omega
    go_wp2
    go_ret
    exact ⟨rfl, HE1.out⟩
  have hd : decide ((1200 : Int) < b.length) = false := by simp; omega
  go_wp2_with fail
  clear hd
  have hlen := rall_len b
  obtain ⟨L, es, er, hR⟩ : ∃ L es er, rall 0 b = (L, es, er) := ⟨_, _, _, rfl⟩
  rw [hR] at hlen
  simp only [] at hlen
  have hl : L.length ≤ 1048576 := by omega
  have HR := hid hR
  clear hR hlen
  have h5 := all5_any _ b _ (HB.out.ext HE1.out) (by omega) (HT.out.ext HE1.out)
  unfold AllR5 at h5
  rw [HR.out] at h5
  refine h5.mono ?_
  rintro e w2 ⟨lv, uv1, rfl, hl2, hu2, hw⟩
  simp only [] at hl2 hu2
  obtain ⟨lo, lc, rfl⟩ := hl2.open
  obtain ⟨uo, uc, rfl, -⟩ := hu2.vec.open
  have HE2 := hid (HE1.out.trans hw)
  have HL2 := hid hl2.rcs
  have HU2 := hid hu2.vec
  clear h5 hl2 hu2 hw
  go_wp2_with fail
  have h5 := rall5_any _ b _ (HB.out.ext HE2.out) (by omega)
  unfold AllR5 at h5
  rw [HR.out] at h5
  refine h5.mono ?_
  rintro e w3 ⟨mv, tv, rfl, hm3, ht3, hw⟩
  simp only [] at hm3 ht3
  obtain ⟨mo, mc, rfl⟩ := hm3.open
  obtain ⟨to, tc, rfl, -⟩ := ht3.vec.open
  have HE3 := hid (HE2.out.trans hw)
  have HL3 := hid (HL2.out.ext hw)
  have HU3 := hid (HU2.out.ext hw)
  have HM3 := hid hm3.rcs
  have HT3 := hid ht3.vec
  clear h5 hm3 ht3 hw
  go_wp2_with fail
  refine (own5_any _ L _ HL3.out hl).mono ?_
  rintro e w4 ⟨ov, rfl, ho4, hw⟩
  have HO4 := hid ho4
  have HE4 := hid (HE3.out.trans hw)
  have HU4 := hid (HU3.out.ext hw)
  have HM4 := hid (HM3.out.ext hw)
  have HT4 := hid (HT3.out.ext hw)
  clear ho4 hw
  go_wp2_with fail
  refine (rsames5_any _ _ L L _ HO4.out HM4.out hl hl).mono ?_
  rintro e w5 ⟨rfl, hw⟩
  rw [recsame_eq rfl]
  have HE5 := hid (HE4.out.trans hw)
  have HU5 := hid (HU4.out.ext hw)
  have HT5 := hid (HT4.out.ext hw)
  clear hw
  go_wp2_with fail
  refine (ints_any _ _ es es _ HU5.out HT5.out).mono ?_
  rintro e w6 ⟨rfl, hw⟩
  have hs : (es == es) = true := by simp
  rw [hs]
  have hE6 := HE5.out.trans hw
  clear hw hs
  go_wp2
  go_ret
  exact ⟨rfl, hE6⟩
end Go.Proofs.YtafdandnbbbdfaaDoor
