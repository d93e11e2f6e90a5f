/- DeadMade. -/
import Derived.Test.YtfpljeblehieiaaDoorDedMF
set_option linter.unusedSimpArgs false
set_option linter.unusedVariables false
namespace Go.Proofs.YtfpljeblehieiaaDoor
open Go Go.RowKit Go.Tum Go.ChangeMaps Go.Sort Go.Tum.Rn Go.WideShapes Go.ChangeShapes

section
variable {H : Type} {enc : TypeId × Value → H} {w : World} {base : Nat} {held : Bool}
set_option maxRecDepth 100000 in
theorem open_rowsD {v : Value} {d : DataW H} {p : List MemPlace} {r : Reach} {b0 : Nat} (hval : Value.okWide Tryd.prog w r b0 45 v) (h : DataW.Trod enc Tryd.prog w base (fun _ => true) held 45 v d p) :
    ∃ m : List (UInt64 × UInt64), Sl w 2 v m.length (m.flatMap encR) := by
  obtain ⟨a, len, cap, rfl⟩ := okWide_slice Tryd.underlying45 hval
  obtain ⟨fuel, hf⟩ := h
  replace hf : DataW.trod enc Tryd.prog w base (fun _ => true) held fuel 45 [.slice a len cap] = some (d, p) := hf
  rcases open_slice_fields Tryd.underlying45 Tryd.underlying48 (by kernel_rfl) (by kernel_rfl) hf with ⟨h0, _⟩ | ⟨a, len, cap, m, D, Pl, hcs, hb, hl, hm, hmm, hx, hi⟩
  · simp at h0
    obtain ⟨rfl, rfl, rfl⟩ := h0
    exact ⟨[], Sl.nil _ _⟩
  · simp at hcs
    obtain ⟨rfl, rfl, rfl⟩ := hcs
    simp at hmm
    subst hmm
    have hrow : ∀ i, i < len → ∃ q : UInt64 × UInt64, ∀ j u, (encR q)[j]? = some u → w.cell? (a.add (i * 2 + j)) = some u := by
      intro i hil
      obtain ⟨ys, n, -, -, -, hfj⟩ := hi i (by omega)
      obtain ⟨u0, y0, k0, -, t0⟩ := hfj 0 _ rfl
      obtain ⟨u1, y1, k1, -, t1⟩ := hfj 1 _ rfl
      obtain ⟨z0, e, -, hw0⟩ := DataW.trod_int Tryd.underlying29 t0
      simp at e; subst e
      obtain ⟨x0, rfl⟩ := u64_of hw0
      obtain ⟨z1, e, -, hw1⟩ := DataW.trod_int Tryd.underlying29 t1
      simp at e; subst e
      obtain ⟨x1, rfl⟩ := u64_of hw1
      refine ⟨(x0, x1), fun j u hu => ?_⟩
      match j, hu with
      | 0, hu => simp at hu; subst hu; exact k0
      | 1, hu => simp at hu; subst hu; exact k1
    obtain ⟨q, hq, hQ⟩ := list_of len hrow
    exact ⟨q, (RowsOf.mk' (c := encR) hq hl hm (by decide) (fun _ _ => rfl) (fun i h j u hu => hQ i h j u hu)).2⟩
set_option maxRecDepth 100000 in
theorem open_cursD {v : Value} {d : DataW H} {p : List MemPlace} {r : Reach} {b0 : Nat} (hval : Value.okWide Tryd.prog w r b0 46 v) (h : DataW.Trod enc Tryd.prog w base (fun _ => true) held 46 v d p) :
    ∃ m : List Cur, Sl w 2 v m.length (m.flatMap encC) ∧ ∀ q ∈ m, q.1.length ≤ maxLen := by
  obtain ⟨a, len, cap, rfl⟩ := okWide_slice Tryd.underlying46 hval
  obtain ⟨fuel, hf⟩ := h
  replace hf : DataW.trod enc Tryd.prog w base (fun _ => true) held fuel 46 [.slice a len cap] = some (d, p) := hf
  rcases open_slice_fields Tryd.underlying46 Tryd.underlying51 (by kernel_rfl) (by kernel_rfl) hf with ⟨h0, _⟩ | ⟨a, len, cap, m, D, Pl, hcs, hb, hl, hm, hmm, hx, hi⟩
  · simp at h0
    obtain ⟨rfl, rfl, rfl⟩ := h0
    exact ⟨[], Sl.nil _ _, fun p h => absurd h (by simp)⟩
  · simp at hcs
    obtain ⟨rfl, rfl, rfl⟩ := hcs
    simp at hmm
    subst hmm
    have hrow : ∀ i, i < len → ∃ q : Cur, q.1.length ≤ maxLen ∧ ∀ j u, (encC q)[j]? = some u → w.cell? (a.add (i * 2 + j)) = some u := by
      intro i hil
      obtain ⟨ys, n, -, -, -, hfj⟩ := hi i (by omega)
      obtain ⟨u0, y0, k0, -, t0⟩ := hfj 0 _ rfl
      obtain ⟨u1, y1, k1, -, t1⟩ := hfj 1 _ rfl
      obtain ⟨s0, e, -, hs0⟩ := DataW.trod_string Tryd.underlying9 t0
      simp at e; subst e
      obtain ⟨z1, e, -, hw1⟩ := DataW.trod_int Tryd.underlying29 t1
      simp at e; subst e
      obtain ⟨x1, rfl⟩ := u64_of hw1
      refine ⟨(s0.data.toList, x1), nmD_len hs0, fun j u hu => ?_⟩
      match j, hu with
      | 0, hu => simp at hu; subst hu; rw [nmD_of s0] at k0; exact k0
      | 1, hu => simp at hu; subst hu; exact k1
    obtain ⟨q, hq, hQ⟩ := list_of len hrow
    refine ⟨q, (RowsOf.mk' (c := encC) hq hl hm (by decide) (fun _ _ => rfl) (fun i h j u hu => (hQ i h).2 j u hu)).2, fun z hz => ?_⟩
    obtain ⟨i, hil, rfl⟩ := List.mem_iff_getElem.1 hz
    exact (hQ i hil).1
end
theorem row_oneC (w : World) (e : Nat) (z : Cur) : Sl (w.alloc (.cells #[vN z.1, vU z.2] e (0, 0))) 2 (.slice (some ⟨w.heap.size, 0, none⟩) 1 1) 1 (encC z) := by
  have hblk := heap_alloc_new w (.cells #[vN z.1, vU z.2] e (0, 0))
  refine ⟨rfl, some ⟨w.heap.size, 0, none⟩, 1, rfl, Nat.le_refl _, by simp [maxLen], (fun h => by cases h), fun a ha j u hu => ?_⟩
  cases ha
  have e1 : (⟨w.heap.size, 0, none⟩ : Addr).add j = ⟨w.heap.size, j, none⟩ := by unfold Addr.add; split <;> simp_all
  rw [e1, cell_of_row _ _ _ _ _ _ hblk]
  simpa using hu
set_option maxRecDepth 100000 in
set_option maxHeartbeats 4000000 in
theorem deadMade_law (last : UInt64) (v u : Value) (rows : List (UInt64 × UInt64)) (cs : List Cur) (w : World) (hr : Sl w 2 v rows.length (rows.flatMap encR)) (hc : Sl w 2 u cs.length (cs.flatMap encC)) (ht : TB w) :
    Calls Tryd.prog 4 #[vU last, v, u] w fun e w' => e = .returned (.bool true) ∧ Ext w w' := by
  have HR := hid hr
  have HC := hid hc
  have HT := hid ht
  obtain ⟨ao, ac, rfl⟩ : ∃ a c, v = .slice a rows.length c := by obtain ⟨-, a, c, e, -⟩ := hr; exact ⟨a, c, e⟩
  obtain ⟨bo, bc, rfl⟩ : ∃ a c, u = .slice a cs.length c := by obtain ⟨-, a, c, e, -⟩ := hc; exact ⟨a, c, e⟩
  obtain ⟨hale, ham, haz, hac⟩ := Sl.cells hr
  obtain ⟨hble, hbm, hbz, hbc⟩ := Sl.cells hc
  have hamm : ac ≤ 9223372036854775807 := by simpa [maxLen] using ham
  have hbmm : bc ≤ 9223372036854775807 := by simpa [maxLen] using hbm
  have HAC := hid hac
  have HBC := hid hbc
  have HAZ := hid haz
  have HBZ := hid hbz
  clear hr hc ht ham hbm hac hbc haz hbz
  go_enter Tryd.func4, Tryd.ntmps4
  go_wp2_with fail
  refine (dawake_any w HT.out).mono ?_
  rintro e w1 ⟨rfl, hx⟩
  have HE1 := hid hx
  clear hx
  by_cases h1 : 200 < rows.length
  · have hd1 : decide ((200 : Int) < (rows.length : Int)) = true := by simp; omega
    clear h1
    go_wp2
    go_returns
    exact ⟨rfl, HE1.out⟩
  have hd1 : decide ((200 : Int) < (rows.length : Int)) = false := by simp; omega
  by_cases h2 : 200 < cs.length
  · have hd2 : decide ((200 : Int) < (cs.length : Int)) = true := by simp; omega
    clear h2
    go_wp2
    go_returns
    exact ⟨rfl, HE1.out⟩
  have hd2 : decide ((200 : Int) < (cs.length : Int)) = false := by simp; omega
  have H1 : Hid (rows.length ≤ 200) := hid (by omega)
  have H2 : Hid (cs.length ≤ 200) := hid (by omega)
  have HP0 := hid (World.ownsRow_lit (base := w1.heap.size) (e := 49) (size := 2) w1 #[] 0 (Nat.le_refl _) (by simp [maxLen]) (by simp))
  have HP1 : Hid (((w1.alloc (.cells #[] 49 (0, 0))).alloc (.cells #[] 52 (0, 0))).ownsRow w.heap.size 49 2 (.slice (some ⟨w1.heap.size, 0, none⟩) 0 0) 0 []) := hid ((Ext.alloc _ _).owns (owns_mono HP0.out HE1.out.size))
  have HQ1 : Hid (((w1.alloc (.cells #[] 49 (0, 0))).alloc (.cells #[] 52 (0, 0))).ownsRow w.heap.size 52 2 (.slice (some ⟨w1.heap.size + 1, 0, none⟩) 0 0) 0 []) := hid (by
    have := World.ownsRow_lit (base := w.heap.size) (e := 52) (size := 2) (w1.alloc (.cells #[] 49 (0, 0))) #[] 0 (by rw [World.size_alloc]; have := HE1.out.size; omega) (by simp [maxLen]) (by simp)
    rw [World.size_alloc] at this
    exact this)
  have HE2 := hid ((HE1.out.trans (Ext.alloc w1 (.cells #[] 49 (0, 0)))).trans (Ext.alloc (w1.alloc (.cells #[] 49 (0, 0))) (.cells #[] 52 (0, 0))))
  clear h1 h2 HP0
  go_wp2
  clear hd1 hd2
  obtain ⟨bq, hbq⟩ : ∃ b, w1.heap.size + 1 = b := ⟨_, rfl⟩
  rw [hbq] at HQ1
  try rw [hbq]
  clear hbq
  go_loopw [7, 31] (fun pv0 iv wr => ∃ (k : Nat) (go : Option Addr) (gc : Nat), k ≤ rows.length ∧ iv = .int .i64 (k : Int) ∧ pv0 = .slice go k gc ∧ Hid (wr.ownsRow w.heap.size 49 2 (.slice go k gc) k ((rows.take k).flatMap encR)) ∧ Hid (wr.ownsRow w.heap.size 52 2 (.slice (some ⟨bq, 0, none⟩) 0 0) 0 []) ∧ Hid (Ext w wr)) (fun _ iv _ => rows.length - (intOf iv).toNat)
  case atStart => exact ⟨0, _, _, by omega, rfl, rfl, HP1, HQ1, HE2⟩
  case round =>
    clear HP1 HQ1 HE2
    obtain ⟨k, go, gc, hk, rfl, rfl, HP, HQ, HE⟩ := hrel
    by_cases hlt : k < rows.length
    · have hki : decide ((k : Int) < (rows.length : Int)) = true := by simp; omega
      obtain ⟨a, rfl⟩ : ∃ a, ao = some a := by
        cases ao with
        | none => have := HAZ.out rfl; omega
        | some a => exact ⟨a, rfl⟩
      obtain ⟨g0, g1⟩ := flat2_get (A := fun z : UInt64 × UInt64 => vU z.1) (Bf := fun z => vU z.2) rows k hlt
      have r0 := cell_first (i := k * 2) (HE.out.cell (HAC.out a rfl _ _ g0))
      have r1 := cell_next (i := k * 2) (j := 1) (HE.out.cell (HAC.out a rfl _ _ g1)) (by decide)
      have htake : (rows.take (k + 1)).flatMap encR = (rows.take k).flatMap encR ++ encR rows[k] := by rw [List.take_add_one, List.getElem?_eq_getElem hlt, Option.toList_some, List.flatMap_append]; simp
      obtain ⟨z, hz⟩ : ∃ z, rows[k] = z := ⟨_, rfl⟩
      rw [hz] at r0 r1 htake
      obtain ⟨z1, z2⟩ := z
      have HTK := hid htake
      have HKL := hid hlt
      have hbx := heap_alloc_new wr (.cells #[vU z1, vU z2] 48 (0, 0))
      obtain ⟨q0, q1, -⟩ := lk2 hbx
      have hx5 := Ext.alloc wr (.cells #[vU z1, vU z2] 48 (0, 0))
      have HP5 := hid (hx5.owns HP.out)
      have HQ5 := hid (hx5.owns HQ.out)
      have HE5 := hid (HE.out.trans hx5)
      have hl9 := H1.out
      clear g0 g1 htake hz hbx hx5 HP HQ HE
      go_wp2_with (at_builtin; refine heldM ?_)
      refine Or.inl ?_
      refine wpList_append_slN rfl (.tmp 35) (.tmp 37) 28 rfl w.heap.size 49 Tryd.underlying28 infoRR rfl (by decide) rfl ((Ext.alloc _ _).owns HP5.out) rfl (by have h9 := row_one (wr.alloc (.cells #[vU z1, vU z2] 48 (0, 0))) 49 (z1, z2); rw [World.size_alloc] at h9; exact h9) (by intro y hy; simp only [List.mem_cons, List.not_mem_nil, or_false] at hy; rcases hy with rfl | rfl <;> rfl) (k + 1) rfl (by simp [maxLen]; omega) (by omega) (Nat.le_trans HE5.out.size (by simp)) ?_
      intro ao3 cap3 w3 hO3 hg3 hb3
      have HO3 := hid hO3
      have HE3 : Hid (Ext w w3) := hid (Below.trans (HE5.out.trans (Ext.alloc _ _)) hb3)
      have HQ3 : Hid (w3.ownsRow w.heap.size 52 2 (.slice (some ⟨bq, 0, none⟩) 0 0) 0 []) := hid (ownsRow_fr ((Ext.alloc _ _).owns HQ5.out) hg3 (fun b h1 h2 => by obtain ⟨c1, e1⟩ := row_kind HQ5.out b h1; obtain ⟨c2, e2⟩ := row_kind HP5.out b h2; rw [e1] at e2; cases e2))
      clear hO3 hg3 hb3
      go_wp2
      go_roundw
      case rel => exact ⟨k + 1, ao3, cap3, by have := HKL.out; omega, by go_num, rfl, hid (by rw [HTK.out]; exact HO3.out), HQ3, HE3⟩
      case measure =>
        have := HKL.out
        show rows.length - ((k : Int) + 1).toNat < rows.length - ((k : Int)).toNat
        omega
    · have hkf : decide ((k : Int) < (rows.length : Int)) = false := by simp; omega
      obtain rfl : k = rows.length := by omega
      have HPA : Hid (wr.ownsRow w.heap.size 49 2 (.slice go rows.length gc) rows.length (rows.flatMap encR)) := hid (by have := HP.out; rw [List.take_length] at this; exact this)
      clear HP
      go_wp2
      go_loopw [8, 42] (fun qv0 iv wr => ∃ (k : Nat) (ho : Option Addr) (hc : Nat), k ≤ cs.length ∧ iv = .int .i64 (k : Int) ∧ qv0 = .slice ho k hc ∧ Hid (wr.ownsRow w.heap.size 52 2 (.slice ho k hc) k ((cs.take k).flatMap encC)) ∧ Hid (wr.ownsRow w.heap.size 49 2 (.slice go rows.length gc) rows.length (rows.flatMap encR)) ∧ Hid (∀ z ∈ cs.take k, z.1.length ≤ 100) ∧ Hid (Ext w wr)) (fun _ iv _ => cs.length - (intOf iv).toNat)
      case atStart => exact ⟨0, _, _, by omega, rfl, rfl, HQ, HPA, hid (by simp), HE⟩
      case round =>
        clear HQ HPA HE
        obtain ⟨k, ho, hc, hk, rfl, rfl, HQ, HP, HL, HE⟩ := hrel
        by_cases hlt : k < cs.length
        · have hki : decide ((k : Int) < (cs.length : Int)) = true := by simp; omega
          obtain ⟨b, rfl⟩ : ∃ a, bo = some a := by
            cases bo with
            | none => have := HBZ.out rfl; omega
            | some a => exact ⟨a, rfl⟩
          obtain ⟨g0, g1⟩ := flat2_get (A := fun z : Cur => vN z.1) (Bf := fun z => vU z.2) cs k hlt
          have r0 := cell_first (i := k * 2) (HE.out.cell (HBC.out b rfl _ _ g0))
          have r1 := cell_next (i := k * 2) (j := 1) (HE.out.cell (HBC.out b rfl _ _ g1)) (by decide)
          have htk1 : cs.take (k + 1) = cs.take k ++ [cs[k]] := by rw [List.take_add_one, List.getElem?_eq_getElem hlt]; rfl
          obtain ⟨z, hz⟩ : ∃ z, cs[k] = z := ⟨_, rfl⟩
          rw [hz] at r0 r1 htk1
          obtain ⟨z1, z2⟩ := z
          have htake : (cs.take (k + 1)).flatMap encC = (cs.take k).flatMap encC ++ encC (z1, z2) := by rw [htk1, List.flatMap_append]; simp
          have HTK := hid htake
          have HTK1 := hid htk1
          have HKL := hid hlt
          have hbx := heap_alloc_new wr (.cells #[vN z1, vU z2] 51 (0, 0))
          obtain ⟨q0, q1, -⟩ := lk2 hbx
          have hx5 := Ext.alloc wr (.cells #[vN z1, vU z2] 51 (0, 0))
          have HP5 := hid (hx5.owns HP.out)
          have HQ5 := hid (hx5.owns HQ.out)
          have HE5 := hid (HE.out.trans hx5)
          have hl9 := H2.out
          clear g0 g1 htake htk1 hz hbx hx5 HP HQ HE
          by_cases hb : 100 < z1.length
          · have hd : decide ((100 : Int) < ((str z1).size : Int)) = true := by rw [str_size]; simp; omega
            clear hb
            go_wp2
            go_returns
            exact ⟨rfl, HE5.out⟩
          have hd : decide ((100 : Int) < ((str z1).size : Int)) = false := by rw [str_size]; simp; omega
          have HL2 : Hid (∀ z ∈ cs.take (k + 1), z.1.length ≤ 100) := hid (fun z hz => by
            rw [HTK1.out] at hz
            rcases List.mem_append.1 hz with h | h
            · exact HL.out z h
            · rw [List.mem_singleton.1 h]; show z1.length ≤ 100; omega)
          clear hb
          go_wp2_with (at_builtin; refine heldM ?_)
          refine Or.inl ?_
          refine wpList_append_slN rfl (.tmp 50) (.tmp 52) 30 rfl w.heap.size 52 Tryd.underlying30 infoRC rfl (by decide) rfl ((Ext.alloc _ _).owns HQ5.out) rfl (by have h9 := row_oneC (wr.alloc (.cells #[vN z1, vU z2] 51 (0, 0))) 52 (z1, z2); rw [World.size_alloc] at h9; exact h9) (by intro y hy; simp only [List.mem_cons, List.not_mem_nil, or_false] at hy; rcases hy with rfl | rfl <;> rfl) (k + 1) rfl (by simp [maxLen]; omega) (by omega) (Nat.le_trans HE5.out.size (by simp)) ?_
          intro ao3 cap3 w3 hO3 hg3 hb3
          have HO3 := hid hO3
          have HE3 : Hid (Ext w w3) := hid (Below.trans (HE5.out.trans (Ext.alloc _ _)) hb3)
          have HP3 : Hid (w3.ownsRow w.heap.size 49 2 (.slice go rows.length gc) rows.length (rows.flatMap encR)) := hid (ownsRow_fr ((Ext.alloc _ _).owns HP5.out) hg3 (fun b h1 h2 => by obtain ⟨c1, e1⟩ := row_kind HP5.out b h1; obtain ⟨c2, e2⟩ := row_kind HQ5.out b h2; rw [e1] at e2; cases e2))
          clear hO3 hg3 hb3
          go_wp2
          go_roundw
          case rel => exact ⟨k + 1, ao3, cap3, by have := HKL.out; omega, by go_num, rfl, hid (by rw [HTK.out]; exact HO3.out), HP3, HL2, HE3⟩
          case measure =>
            have := HKL.out
            show cs.length - ((k : Int) + 1).toNat < cs.length - ((k : Int)).toNat
            omega
        · have hkf : decide ((k : Int) < (cs.length : Int)) = false := by simp; omega
          obtain rfl : k = cs.length := by omega
          have HQA : Hid (wr.ownsRow w.heap.size 52 2 (.slice ho cs.length hc) cs.length (cs.flatMap encC)) := hid (by have := HQ.out; rw [List.take_length] at this; exact this)
          have HLA : Hid (∀ z ∈ cs, z.1.length ≤ 100000) := hid (fun z hz => by have := HL.out z (by rw [List.take_length]; exact hz); omega)
          obtain ⟨R, hR⟩ : ∃ R, fromD last rows cs = R := ⟨_, rfl⟩
          have HRR := hid hR
          clear HQ HL
          go_wp2_with fail
          have hc := dfrom_any last rows cs (HR.out.ext HE.out) (HC.out.ext HE.out) (TBx HT.out HE.out) (by have := H1.out; omega) HLA.out
          rw [hR] at hc
          refine hc.mono ?_
          clear hc hR
          rintro e w5 ⟨hm, hx⟩
          have HE5 := hid (HE.out.trans hx)
          have HP5 := hid (hx |> fun k => k.owns HP.out)
          have HQ5 := hid (hx |> fun k => k.owns HQA.out)
          clear hx HP HQA HE
          cases R
          case none =>
            dsimp only at hm
            subst hm
            go_wp2_with fail
            have hc := rfrom_any last rows cs (Sl.of_owns HP5.out) (Sl.of_owns HQ5.out) (by have := H1.out; omega) HLA.out
            rw [HRR.out] at hc
            refine hc.mono ?_
            clear hc
            rintro e w6 ⟨hm, hx⟩
            have HE6 := hid (HE5.out.trans hx)
            dsimp only at hm
            subst hm
            clear hx
            go_wp2
            go_returns
            exact ⟨rfl, HE6.out⟩
          case some s =>
            obtain ⟨p, mp, ms, rfl, hd, -, -, -⟩ := hm
            have HD := hid hd
            clear hd
            go_wp2_with fail
            have hc := rfrom_any last rows cs (Sl.of_owns HP5.out) (Sl.of_owns HQ5.out) (by have := H1.out; omega) HLA.out
            rw [HRR.out] at hc
            refine hc.mono ?_
            clear hc
            rintro e w6 ⟨⟨q, vr, vs, rfl, hr⟩, hx⟩
            have HE6 := hid (HE5.out.trans hx)
            have HD6 := hid (HD.out.ext hx)
            have HRD := hid hr
            clear hx hr HD
            go_wp2_with fail
            refine (own_any HD6.out (WD.from HRR.out).1 (TBx HT.out HE6.out)).mono ?_
            rintro e w7 ⟨⟨g1, vr1, vs1, rfl, hr⟩, hx⟩
            have HR1 := hid hr
            have HRD7 := hid (HRD.out.ext hx)
            have HE7 := hid (HE6.out.trans hx)
            clear hr hx
            go_wp2_with fail
            refine (same_eq HR1.out HRD7.out).mono ?_
            rintro e w8 ⟨rfl, hx⟩
            have HE8 := hid (HE7.out.trans hx)
            clear hx
            go_wp2
            go_returns
            exact ⟨rfl, HE8.out⟩
end Go.Proofs.YtfpljeblehieiaaDoor
