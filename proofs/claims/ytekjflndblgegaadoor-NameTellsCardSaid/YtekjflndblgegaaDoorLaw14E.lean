/- NameTells: the walk. -/
import Derived.Test.YtekjflndblgegaaDoorLaw14D
import Derived.Test.YtekjflndblgegaaDoorNamO
import Derived.Test.YtekjflndblgegaaDoorNamW
set_option linter.unusedSimpArgs false
set_option linter.unusedVariables false
namespace Go.Proofs.YtekjflndblgegaaDoor
open Go Go.RowKit Go.Tum Go.ChangeMaps Go.Sort Go.Nam

theorem readV_shape (s : List UInt8) : ∃ (k n : Int) (b : Bool), readV s = .tuple #[.int .u8 k, .int .u64 n, .bool b] := by
  cases hr : readL s with
  | none => exact ⟨_, _, _, readV_none hr⟩
  | some p => obtain ⟨k, n⟩ := p; exact ⟨_, _, _, readV_some hr⟩
set_option maxRecDepth 100000 in
set_option maxHeartbeats 2000000 in
theorem nameTells_law (kind : UInt8) (n : UInt64) (s : Nm) (v : Value) (l : List Nm) (w : World) (hv : Vec vN w v l) (ht : Pw w) :
    Calls Tryd.prog 3 #[u8V kind, uv n, vN s, v] w fun e w' => e = .returned (.bool true) ∧ Ext w w' := by
  have HT := hid ht
  have HV := hid hv
  obtain ⟨ao, cap, rfl, hle, hm, -, -⟩ := hv.open
  clear ht hv
  go_enter Tryd.func3, Tryd.ntmps3
  go_wp2_with fail
  refine (nawake_any w HT.out).mono ?_
  rintro e w1 ⟨rfl, hx⟩
  have HX1 := hid hx
  clear hx
  have HVS := hid (owv_lit (f := vN) w1 w1.heap.size 9 [s] #[vN s] rfl 1 rfl (Nat.le_refl _) (by simp [maxLen])).vec
  have HXA := hid (Ext.alloc w1 (.cells #[vN s] 9 (0, 0)))
  go_wp2_with fail
  refine (nlarge_any _ [s] _ HVS.out).mono ?_
  rintro e w2 ⟨⟨r, rfl, hr⟩, hx⟩
  have HX2 := hid (HX1.out.trans (HXA.out.trans hx))
  clear hx HX1 HXA HVS
  cases r
  case true =>
    clear hr
    go_wp2
    go_returns
    exact ⟨rfl, HX2.out⟩
  have HS := hid ((hr rfl).2 s (by simp))
  clear hr
  go_wp2_with fail
  refine (nlarge_any _ l _ (HV.out.ext HX2.out)).mono ?_
  rintro e w3 ⟨⟨r, rfl, hr⟩, hx⟩
  have HX3 := hid (HX2.out.trans hx)
  clear hx HX2
  cases r
  case true =>
    clear hr
    go_wp2
    go_returns
    exact ⟨rfl, HX3.out⟩
  have HL := hid (hr rfl)
  clear hr
  obtain ⟨R0, hR0⟩ : ∃ R, ofL kind n.toNat = R := ⟨_, rfl⟩
  have hc := of_any kind n.toNat n.toNat_lt w3 (HT.out.ext HX3.out)
  have hc2 := fun w => rof_any kind n.toNat n.toNat_lt w
  rw [hR0] at hc hc2
  obtain ⟨A, e0⟩ := R0
  have HC := hid hc
  have HC2 := hid hc2
  clear hc hc2 hR0
  go_wp2_with fail
  refine HC.out.mono ?_
  rintro e w4 ⟨rfl, hx⟩
  have HX4 := hid (HX3.out.trans hx)
  clear hx HX3 HC
  go_wp2_with fail
  refine (HC2.out w4).mono ?_
  rintro e w5 ⟨rfl, hx⟩
  have HX5 := hid (HX4.out.trans hx)
  clear hx HX4 HC2
  obtain ⟨rk, rn, rb, hRV⟩ := readV_shape s
  have hc := fun w => read_any s w (by have := HS.out; omega)
  have hc2 := fun w => rread_any s w (by have := HS.out; omega)
  rw [hRV] at hc hc2
  have HC := hid hc
  have HC2 := hid hc2
  clear hc hc2 hRV
  go_wp2_with fail
  refine (HC.out w5).mono ?_
  rintro e w6 ⟨rfl, hx⟩
  have HX6 := hid (HX5.out.trans hx)
  clear hx HX5 HC
  go_wp2_with fail
  refine (HC2.out w6).mono ?_
  rintro e w7 ⟨rfl, hx⟩
  have HX7 := hid (HX6.out.trans hx)
  clear hx HX6 HC2
  have hss : (A == A) = true := by simp
  go_wp2_with fail
  refine (only_any _ l kind w7 (HV.out.ext HX7.out) (fun s hs => by have := HL.out.2 s hs; omega) (by have := HL.out.1; omega)).mono ?_
  rintro e w8 ⟨⟨u, rfl, ho⟩, hx⟩
  obtain ⟨uo, uc, rfl⟩ := ho.shape
  obtain ⟨L, hL⟩ : ∃ L, (numsL kind l).mergeSort leU = L := ⟨_, rfl⟩
  have hr2 := fun w hv => ronly_any (.slice ao l.length cap) l kind w hv (fun s hs => by have := HL.out.2 s hs; omega) (by have := HL.out.1; omega)
  rw [hL] at ho hr2 ⊢
  have HO := hid ho
  have HX8 := hid (HX7.out.trans hx)
  have HC := hid hr2
  clear hx HX7 hL ho hr2
  go_wp2_with fail
  refine (HC.out w8 (HV.out.ext HX8.out)).mono ?_
  rintro e w9 ⟨⟨u, rfl, ho⟩, hx⟩
  obtain ⟨uo2, uc2, rfl⟩ := ho.shape
  have HO2 := hid ho
  have HO1 := hid (HO.out.ext hx)
  have HX9 := hid (HX8.out.trans hx)
  clear hx HX8 ho HO HC
  go_wp2_with fail
  have hc := rsame64_any _ _ L L w9 HO1.out.vec HO2.out.vec
  rw [show (L == L) = true from by simp] at hc
  refine hc.mono ?_
  clear hc
  rintro e w10 ⟨rfl, hx⟩
  have HX10 := hid (HX9.out.trans hx)
  clear hx HX9
  go_wp2
  go_returns
  exact ⟨by first | rfl | simp, HX10.out⟩
end Go.Proofs.YtekjflndblgegaaDoor
