/- The dead's laws: awake. -/
import Derived.Test.YtfpljeblehieiaaDoorDedO
import Derived.Test.YtfpljeblehieiaaDoorSame64
set_option linter.unusedSimpArgs false
set_option linter.unusedVariables false
namespace Go.Proofs.YtfpljeblehieiaaDoor
open Go Go.RowKit Go.Tum Go.ChangeMaps Go.Sort Go.Tum.Rn
open Go.ParB (upd Lof)
open Go.ParE (putS slotsR slots Closed)

theorem vec_ids {w : World} {b : Nat} {v : Value} {l : List UInt64} (h : w.ownsRow b 29 1 v l.length (l.map vU)) : Vec uv w v l := Sl.of_owns h
theorem ids_fr {w w' : World} {b : Nat} {v : Value} {n : Nat} {xs : List Value} {e s : Nat} {S : List Nat} (h : w.ownsRow b e s v n xs) (f : Fr S w w') (hs : ∀ q ∈ S, q < b) : w'.ownsRow b e s v n xs :=
  ownsRow_fr h f (fun q h1 h2 => by have := row_lo h q h1; have := hs q h2; omega)
theorem ids_ext {w w' : World} {b : Nat} {v : Value} {n : Nat} {xs : List Value} {e s : Nat} (h : w.ownsRow b e s v n xs) (k : Ext w w') : w'.ownsRow b e s v n xs := k.owns h
abbrev A1 : PD := ⟨1, [(5, 1)], []⟩
abbrev A2 : PD := ⟨2, [(5, 1), (3, 2)], []⟩
abbrev A3 : PD := ⟨3, [(5, 1), (3, 2), (9, 3)], []⟩
abbrev A4 : PD := ⟨3, [(5, 1), (3, 2), (9, 3)], [([97], 2)]⟩
abbrev A5 : PD := ⟨3, [(5, 1), (3, 2), (9, 3)], [([97], 3)]⟩
abbrev A6 : PD := ⟨3, [(5, 1), (9, 3)], [([97], 3)]⟩
theorem qa1 : addD newD 5 = (true, A1) := by kernel_rfl
theorem qa2 : addD A1 3 = (true, A2) := by kernel_rfl
theorem qa3 : addD A2 5 = (false, A2) := by kernel_rfl
theorem qa4 : addD A2 9 = (true, A3) := by kernel_rfl
theorem qn1 : nextD A3 [65] 2 = ([5, 3], 0, A4) := by kernel_rfl
theorem qn2 : nextD A4 [97] 2 = ([9], 0, A5) := by kernel_rfl
theorem qn3 : nextD A5 [45] 2 = ([], 1, A5) := by kernel_rfl
theorem qf1 : fromD 3 [(5, 1), (3, 2), (9, 3)] [([97], 3)] = some A5 := by kernel_rfl
theorem qf2 : fromD 0 [(1, 1)] [] = none := by kernel_rfl
theorem qd1 : dropD A5 3 = (true, A6) := by kernel_rfl
theorem WA1 : WD A1 := by have := WD.new.add 5 (by decide); rw [qa1] at this; exact this
theorem WA2 : WD A2 := by have := WA1.add 3 (by decide); rw [qa2] at this; exact this
theorem WA3 : WD A3 := by have := WA2.add 9 (by decide); rw [qa4] at this; exact this
theorem WA4 : WD A4 := by have := WA3.next [65] 2; rw [qn1] at this; exact this
theorem WA5 : WD A5 := by have := WA4.next [97] 2; rw [qn2] at this; exact this
theorem vec_two (w : World) (e : Nat) (x y : UInt64) : Vec uv (w.alloc (.cells #[uv x, uv y] e (0, 0))) (.slice (some ⟨w.heap.size, 0, none⟩) 2 2) [x, y] := by
  have hblk := heap_alloc_new w (.cells #[uv x, uv y] e (0, 0))
  refine ⟨rfl, some ⟨w.heap.size, 0, none⟩, 2, rfl, Nat.le_refl _, by simp [maxLen], (fun h => by cases h), fun a ha j u hu => ?_⟩
  cases ha
  have e1 : (⟨w.heap.size, 0, none⟩ : Addr).add j = ⟨w.heap.size, j, none⟩ := by unfold Addr.add; split <;> simp_all
  rw [e1, cell_of_row _ _ _ _ _ _ hblk]
  simpa using hu
theorem dnext_ids {w : World} {p mp ms : Nat} {ids : List UInt64} {err : Int} {s : PD} {e : Ending} {w' : World} (h : NxtP w p mp ms ids err s e w') {r : List UInt64 × Int × PD} (hr : r = (ids, err, s)) : NxtP w p mp ms r.1 r.2.1 r.2.2 e w' := by rw [hr]; exact h
set_option maxRecDepth 100000 in
set_option maxHeartbeats 4000000 in
theorem dawake_any (w : World) (ht : TB w) : Calls Tryd.prog 7 #[] w fun e w' => e = .returned (.bool true) ∧ Ext w w' := by
  have HT := hid ht
  have h2 := ht.two
  clear ht
  go_enter Tryd.func7, Tryd.ntmps7
  go_wp2_with fail
  refine (dnew_any w).mono ?_
  rintro e w1 ⟨⟨p, mp, ms, rfl, hD, hp, hmp, hms⟩, hE⟩
  have HD1 := hid hD
  have HE1 := hid hE
  have HFE : Hid (∀ (w0 w' : World), Ext w w0 → Fr [p, mp, ms] w0 w' → Ext w w') := hid (fun w0 w' hx hf => Below.trans hx (hf.below (by simp; omega) hx.size))
  clear hD hE hp hmp hms
  go_wp2_with fail
  have hc := dadd_any 5 HD1.out (by decide)
  rw [qa1] at hc
  refine hc.mono ?_
  clear hc
  rintro e w2 ⟨rfl, hd, hf⟩
  have HD2 := hid hd
  have HE2 := hid (HFE.out _ _ HE1.out hf)
  have HF2 := hid hf
  clear hd hf
  go_wp2_with fail
  have hc := dadd_any 3 HD2.out (by decide)
  rw [qa2] at hc
  refine hc.mono ?_
  clear hc
  rintro e w3 ⟨rfl, hd, hf⟩
  have HD3 := hid hd
  have HE3 := hid (HFE.out _ _ HE2.out hf)
  have HF3 := hid hf
  clear hd hf
  go_wp2_with fail
  have hc := dadd_any 5 HD3.out (by decide)
  rw [qa3] at hc
  refine hc.mono ?_
  clear hc
  rintro e w4 ⟨rfl, hd, hf⟩
  have HD4 := hid hd
  have HE4 := hid (HFE.out _ _ HE3.out hf)
  have HF4 := hid hf
  clear hd hf
  go_wp2_with fail
  have hc := dadd_any 9 HD4.out (by decide)
  rw [qa4] at hc
  refine hc.mono ?_
  clear hc
  rintro e w5 ⟨rfl, hd, hf⟩
  have HD5 := hid hd
  have HE5 := hid (HFE.out _ _ HE4.out hf)
  have HF5 := hid hf
  clear hd hf
  go_wp2_with fail
  have hc := dnext_any [65] 2 (by decide) (by decide) HD5.out WA3 (TBx HT.out HE5.out) (by decide)
  rw [qn1] at hc
  refine hc.mono ?_
  clear hc
  rintro e w6 ⟨⟨u, rfl, ho⟩, hd, hf⟩
  obtain ⟨uo, uc, rfl⟩ := row_shape ho
  have Hu6 := hid ho
  have HD6 := hid hd
  have HE6 := hid (HFE.out _ _ HE5.out hf)
  have HuB := hid (show p < w5.heap.size ∧ mp < w5.heap.size ∧ ms < w5.heap.size from HD5.out.lt)
  clear ho hd hf
  go_wp2_with fail
  have hc := dnext_any [97] 2 (by decide) (by decide) HD6.out WA4 (TBx HT.out HE6.out) (by decide)
  rw [qn2] at hc
  refine hc.mono ?_
  clear hc
  rintro e w7 ⟨⟨v, rfl, ho⟩, hd, hf⟩
  obtain ⟨vo, vc, rfl⟩ := row_shape ho
  have Hv7 := hid ho
  have HD7 := hid hd
  have HE7 := hid (HFE.out _ _ HE6.out hf)
  have Hu7 := hid (ids_fr Hu6.out hf (by have := HD6.out.lt; have := HuB.out; simp; omega))
  have HvB := hid (show p < w6.heap.size ∧ mp < w6.heap.size ∧ ms < w6.heap.size from HD6.out.lt)
  clear ho hd hf
  go_wp2_with fail
  have hc := dnext_any [45] 2 (by decide) (by decide) HD7.out WA5 (TBx HT.out HE7.out) (by decide)
  rw [qn3] at hc
  refine hc.mono ?_
  clear hc
  rintro e w8 ⟨⟨x, rfl, ho⟩, hd, hf⟩
  obtain ⟨xo, xc, rfl⟩ := row_shape ho
  have Hx8 := hid ho
  have HD8 := hid hd
  have HE8 := hid (HFE.out _ _ HE7.out hf)
  have Hu8 := hid (ids_fr Hu7.out hf (by have := HD7.out.lt; have := HuB.out; simp; omega))
  have Hv8 := hid (ids_fr Hv7.out hf (by have := HD7.out.lt; have := HvB.out; simp; omega))
  have HxB := hid (show p < w7.heap.size ∧ mp < w7.heap.size ∧ ms < w7.heap.size from HD7.out.lt)
  clear ho hd hf
  go_wp2_with fail
  refine (dlast_any HD8.out).mono ?_
  rintro e w9 ⟨rfl, rfl⟩
  go_wp2_with fail
  have hc := dall_any HD8.out
  rw [WA5.all] at hc
  refine hc.mono ?_
  clear hc
  rintro e w10 ⟨⟨r, rfl, ho⟩, hx⟩
  obtain ⟨ro, rc, rfl⟩ := row_shape ho
  have HR10 := hid ho
  have HD10 := hid (HD8.out.ext hx)
  have HE10 := hid (HE8.out.trans hx)
  have HU10 := hid (ids_ext Hu8.out hx)
  have HV10 := hid (ids_ext Hv8.out hx)
  clear ho hx
  go_wp2_with fail
  refine (dcursors_any HD10.out WA5 (TBx HT.out HE10.out)).mono ?_
  rintro e w11 ⟨⟨c, rfl, ho⟩, hx⟩
  obtain ⟨co, cc, rfl⟩ := row_shape ho
  have HC11 := hid ho
  have HR11 := hid (ids_ext HR10.out hx)
  have HD11 := hid (HD10.out.ext hx)
  have HE11 := hid (HE10.out.trans hx)
  have HU11 := hid (ids_ext HU10.out hx)
  have HV11 := hid (ids_ext HV10.out hx)
  clear ho hx
  go_wp2_with fail
  have hc := dfrom_any 3 [(5, 1), (3, 2), (9, 3)] [([97], 3)] (Sl.of_owns HR11.out) (Sl.of_owns HC11.out) (TBx HT.out HE11.out) (by decide) (by decide)
  rw [qf1] at hc
  refine hc.mono ?_
  clear hc
  rintro e w12 ⟨⟨fp, fmp, fms, rfl, -, -⟩, hx⟩
  have HD12 := hid (HD11.out.ext hx)
  have HE12 := hid (HE11.out.trans hx)
  have HU12 := hid (ids_ext HU11.out hx)
  have HV12 := hid (ids_ext HV11.out hx)
  clear hx
  have HSL := hid (row_one w12 48 (1, 1))
  have HX13 : Hid (Ext w12 (w12.alloc (.cells #[vU 1, vU 1] 48 (0, 0)))) := hid (Ext.alloc _ _)
  go_wp2_with fail
  have hc := dfrom_any 0 [(1, 1)] [] HSL.out (Sl.nil _ 2) (TBx HT.out (HE12.out.trans HX13.out)) (by decide) (by simp)
  rw [qf2] at hc
  refine hc.mono ?_
  clear hc
  rintro e w14 ⟨rfl, hx⟩
  have HX14 := hid (HX13.out.trans hx)
  have HD14 := hid (HD12.out.ext HX14.out)
  have HE14 := hid (HE12.out.trans HX14.out)
  have HU14 := hid (vec_ids (ids_ext HU12.out HX14.out))
  have HV14 := hid (vec_ids (ids_ext HV12.out HX14.out))
  clear hx
  have HP14 := hid (HD14.out.lt)
  have HW := hid (vec_two w14 29 5 3)
  go_wp2_with fail
  have hc := rsame64_any _ _ [5, 3] [5, 3] _ (Vec.ext HU14.out (Ext.alloc _ _)) HW.out
  rw [show (([5, 3] : List UInt64) == [5, 3]) = true from rfl] at hc
  refine hc.mono ?_
  clear hc
  rintro e w15 ⟨rfl, hx⟩
  have HX15 := hid ((Ext.alloc _ _).trans hx)
  have HD15 := hid (HD14.out.ext HX15.out)
  have HE15 := hid (HE14.out.trans HX15.out)
  have HV15 := hid (Vec.ext HV14.out HX15.out)
  clear hx
  have HW2 := hid (Vec.one (f := uv) w15 29 (uv 9) 9 rfl)
  go_wp2_with fail
  have hc := rsame64_any _ _ [9] [9] _ (Vec.ext HV15.out (Ext.alloc _ _)) HW2.out
  rw [show (([9] : List UInt64) == [9]) = true from rfl] at hc
  refine hc.mono ?_
  clear hc
  rintro e w16 ⟨rfl, hx⟩
  have HX16 := hid ((Ext.alloc _ _).trans hx)
  have HD16 := hid (HD15.out.ext HX16.out)
  have HE16 := hid (HE15.out.trans HX16.out)
  clear hx
  go_wp2_with fail
  refine (dlast_any HD16.out).mono ?_
  rintro e w17 ⟨rfl, rfl⟩
  go_wp2_with fail
  have hc := ddrop_any 3 HD16.out
  rw [qd1] at hc
  refine hc.mono ?_
  clear hc
  rintro e w18 ⟨rfl, hd, hf⟩
  have HD18 := hid hd
  have HE18 := hid (HFE.out _ _ HE16.out hf)
  clear hd hf
  go_wp2_with fail
  have hc := dhas_any 3 HD18.out
  rw [show (List.lookup (3 : UInt64) A6.rows).isSome = false from rfl] at hc
  refine hc.mono ?_
  clear hc
  rintro e w19 ⟨rfl, rfl⟩
  go_wp2
  go_returns
  exact ⟨rfl, HE18.out⟩
end Go.Proofs.YtfpljeblehieiaaDoor
