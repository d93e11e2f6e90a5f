/- The document's names: digits, Of. -/
import Derived.Test.YtekjflndblgegaaDoorNamD
import Derived.Deep.CutBlock
set_option linter.unusedSimpArgs false
set_option linter.unusedVariables false
namespace Go.Proofs.YtekjflndblgegaaDoor
open Go Go.RowKit Go.Tum Go.ChangeMaps Go.Sort Go.Nam

theorem dec_small {n : Nat} (h : n < 10) : dec n = [UInt8.ofNat (48 + n)] := by
  unfold dec
  rw [Lib.decDigits, dif_pos h]
theorem str_cat (a b : List UInt8) : str a ++ str b = str (a ++ b) := by
  apply ByteArray.ext
  simp [str, ByteArray.data_append]
set_option maxRecDepth 100000 in
set_option maxHeartbeats 1000000 in
theorem rdig_any (n : Nat) : ∀ (w : World), n < 18446744073709551616 → Calls Tryd.prog 19 #[.int .u64 (n : Int)] w fun e w' => e = .returned (.string (str (dec n))) ∧ Ext w w' := by
  induction n using Nat.strongRecOn with
  | _ n ih =>
  intro w hn
  have IH := hid ih
  have HN := hid hn
  obtain ⟨r, hr⟩ : ∃ r, r = n % 10 := ⟨_, rfl⟩
  obtain ⟨c, hc⟩ : ∃ c : UInt8, c = UInt8.ofNat (48 + r) := ⟨_, rfl⟩
  have hct : c.toNat = 48 + r := by rw [hc, UInt8.toNat_ofNat']; omega
  have hwr : ((n : Int).tmod 10) = (r : Int) := by rw [Int.tmod_eq_emod_of_nonneg (by omega)]; omega
  have hwr2 : ((n : Int) % 10) = (r : Int) := by omega
  have hwc : IntKind.u64.wrap (48 + (r : Int)) = ((48 + r : Nat) : Int) := by rw [IntKind.wrap_u64]; omega
  have hwd : IntKind.u8.wrap ((48 + r : Nat) : Int) = (c.toNat : Int) := by rw [hct, IntKind.wrap_u8]; omega
  have HC := hid (And.intro hr hct)
  clear ih hn hr hc hct
  go_enter Tryd.func19, Tryd.ntmps19
  have hcv : (convert 45 9 (.slice (some ⟨w.heap.size, 0, none⟩) 1 1)).run Tryd.prog (w.alloc (.cells #[.int .u8 (48 + (r : Int))] 5)) = .ok (.string (str [c])) (w.alloc (.cells #[.int .u8 (48 + (r : Int))] 5)) := by
    have ho := own_of_heap (heap_alloc_new w (.cells #[.int .u8 (48 + (r : Int))] 5)) 0 (by omega) [c] (by simp [bv, HC.out.2]) 1 rfl (by simp [maxLen])
    exact run_string_byt (P := Tryd.prog) ho.byt _ _ _ Tryd.underlying45 Tryd.underlying5 Tryd.underlying9
  have hE := Ext.alloc w (.cells #[.int .u8 (48 + (r : Int))] 5)
  have HE := hid hE
  clear hE
  by_cases h10 : n < 10
  · have hd : dec n = [c] := by rw [dec_small h10]; congr 1; apply UInt8.toNat_inj.1; rw [UInt8.toNat_ofNat', HC.out.2, HC.out.1]; omega
    have HD := hid hd
    have h10i : (n : Int) < 10 := by omega
    clear hd
    go_wp2
    go_returns
    exact ⟨by rw [HD.out]; rfl, HE.out⟩
  · have h10f : (n < 10) = False := by simp; omega
    have h10d : decide ((n : Int) < 10) = false := by simp; omega
    obtain ⟨q, hq⟩ : ∃ q, q = n / 10 := ⟨_, rfl⟩
    have hwq : (n : Int) / 10 = (q : Int) := by omega
    have hwq3 : IntKind.u64.wrap (q : Int) = (q : Int) := by rw [IntKind.wrap_u64]; have := HN.out; omega
    have hwq2 : ((n : Int).tdiv 10) = (q : Int) := by rw [Int.tdiv_eq_ediv_of_nonneg (by omega)]; omega
    have hz : ¬ 9223372036854775807 < (str (dec q)).size + (str [c]).size := by
      have := dec_len (n := q) (k := 19) (by have := HN.out; omega)
      rw [str_size, str_size]; simp; omega
    have hcl := IH.out q (by omega) (w.alloc (.cells #[.int .u8 (48 + (r : Int))] 5)) (by have := HN.out; omega)
    have HCL := hid hcl
    have hd : dec n = dec q ++ [c] := by
      unfold dec
      rw [Lib.decDigits, dif_neg h10, hq]
      congr 2
      apply UInt8.toNat_inj.1
      rw [u8_digit (Nat.mod_lt n (by omega)), HC.out.2, HC.out.1]
    have HD := hid hd
    clear hd hcl hq h10
    go_wp2_with fail
    refine HCL.out.mono ?_
    rintro e w2 ⟨rfl, hx⟩
    have HE2 := hid (HE.out.trans hx)
    clear hx HCL
    go_wp2
    go_returns
    exact ⟨by rw [HD.out]; exact congrArg (fun z => Ending.returned (Value.string z)) (str_cat (dec q) [c]), HE2.out⟩
theorem ofL_bad14 {k : UInt8} {n : Nat} (h : ¬ (letL k = true ∧ n < 10000000000)) : ofL k n = ([], 1) := by
  unfold ofL
  rw [if_neg (by simpa using h)]
theorem val_convert14 {P : Program} {ρ : Operand → Value} {w w' : World} {K : Value → World → Prop} {v : Value} {src dst : TypeId} {x : Operand}
    {ds : Option Tmp} {ty : TypeId} {pos : String} {after : Array Edge} {guard : Option (Nat × Bool)}
    (h : (convert src dst (ρ x)).run P w = .ok v w') (hk : K v w') :
    Par.vUpon P K ((execOp ρ { dst := ds, op := .convert src dst x, type := ty, pos, after, guard }).run P w) := by
  unfold execOp
  simp only [Sem.run_bind, Sem.run_pure, h, Result.andThen_ok]
  exact hk
set_option maxRecDepth 100000 in
set_option maxHeartbeats 1000000 in
theorem rof_any (k : UInt8) (n : Nat) (hn : n < 18446744073709551616) (w : World) :
    Calls Tryd.prog 9 #[u8V k, .int .u64 (n : Int)] w fun e w' => e = .returned (.tuple #[.string (str (ofL k n).1), .int .i64 (ofL k n).2]) ∧ Ext w w' := by
  obtain ⟨R, hR⟩ : ∃ R, ofL k n = R := ⟨_, rfl⟩
  have HR := hid hR
  have HN := hid hn
  rw [hR]
  clear hR hn
  by_cases hk : letL k = true
  · by_cases hn2 : n < 10000000000
    · have HO : Hid (R = (nameL k n, 0)) := hid (by rw [← HR.out]; unfold ofL; rw [hk, decide_eq_true hn2]; rfl)
      have hd : decide ((9999999999 : Int) < (n : Int)) = false := by simp; omega
      have hz : ¬ 9223372036854775807 < (str [k, 46]).size + (str (dec n)).size := by
        have := dec_len (n := n) (k := 9) hn2
        rw [str_size, str_size]; simp; omega
      have hk2 : k = 109 ∨ k = 101 ∨ k = 115 := by
        unfold letL at hk
        simpa using hk
      go_enter Tryd.func9, Tryd.ntmps9
      go_upto_region 1 with fail
      go_cut [19] from 6 (fun x wx => x = .bool false ∧ wx = w)
      case first =>
        rcases hk2 with rfl | rfl | rfl
        · go_wp2
          go_meet
          case rel => exact ⟨rfl, rfl⟩
        · go_wp2
          go_meet
          case rel => exact ⟨rfl, rfl⟩
        · go_wp2
          go_meet
          case rel => exact ⟨rfl, rfl⟩
      case rest =>
        obtain ⟨rfl, rfl⟩ := hcut
        clear hd hk hk2 hn2
        go_wp2_with fail
        refine Par.wp_region_par (l := [_, _, _, _, _, _, _, _]) rfl Ext (Par.VL [Par.EQ (u8V k), (fun v w' => Byt w' v [k, 46]), Par.EQ (Value.string (str [k, 46])), Par.EQ (Value.int IntKind.u64 (n : Int)), Par.EQ (Value.string (str (dec n))), Par.EQ (Value.string (str [k, 46] ++ str (dec n))), Par.EQ (Value.string (str [k, 46] ++ str (dec n))), Par.EQ ((Value.int IntKind.i64 0))]) (by kernel_rfl) Ext.refl (fun _ _ _ h1 h2 => Ext.trans h1 h2) (Ext.draw _) (Par.VL_stab ?_) ?_ ?_
        · simp only [List.forall_mem_cons, List.not_mem_nil, false_implies, implies_true, and_true]
          refine ⟨fun _ _ _ _ h => h, fun _ _ _ kk h => h.ext kk, fun _ _ _ _ h => h, fun _ _ _ _ h => h, fun _ _ _ _ h => h, fun _ _ _ _ h => h, fun _ _ _ _ h => h, fun _ _ _ _ h => h⟩
        · refine ⟨⟨fun _ _ => trivial, fun ρ w' hX hG hk => ?_⟩, ?_⟩
          · exact Par.val_of_run rfl ⟨Ext.refl _, hk.1⟩
          refine ⟨⟨fun _ _ => trivial, fun ρ w' hX hG hk => ?_⟩, ?_⟩
          · obtain ⟨k0, k1, -⟩ := hk
            have e0 : ρ (.tmp 20) = u8V k := k0
            have e1 : ρ (Operand.const (Value.int IntKind.u8 46)) = (Value.int IntKind.u8 46) := k1
            clear k0 k1
            refine Par.val_k fun K hK => ?_
            unfold Par.val
            (go_simp; exact hK _ _ ⟨Ext.alloc _ _, (own_of_heap (heap_alloc_new _ _) 0 (by omega) [k, 46] rfl 2 rfl (by simp [maxLen])).byt⟩)
          refine ⟨⟨fun _ _ => trivial, fun ρ w' hX hG hk => ?_⟩, ?_⟩
          · obtain ⟨k0, -⟩ := hk
            have e0 : (fun v w' => Byt w' v [k, 46]) (ρ (.tmp 21)) w' := k0
            clear k0
            refine Par.val_k fun K hK => ?_
            unfold Par.val
            (exact val_convert14 (run_string_byt e0 _ _ _ Tryd.underlying45 Tryd.underlying5 Tryd.underlying9) (hK _ _ ⟨Ext.refl _, rfl⟩))
          refine ⟨⟨fun _ _ => trivial, fun ρ w' hX hG hk => ?_⟩, ?_⟩
          · exact Par.val_of_run rfl ⟨Ext.refl _, hk.1⟩
          refine ⟨⟨fun _ _ => trivial, fun ρ w' hX hG hk => ?_⟩, ?_⟩
          · obtain ⟨k0, k1, -⟩ := hk
            have e0 := k0
            have e1 : ρ (.tmp 23) = Value.int IntKind.u64 (n : Int) := k1
            clear k0 k1
            refine Par.val_k fun K hK => ?_
            unfold Par.val
            refine Par.val_call Tryd.func19 (by kernel_rfl) rfl e0 ?_
            simp only [List.map_toArray, List.map_cons, List.map_nil, e1]
            refine (rdig_any n _ HN.out).mono ?_
            rintro e w2 ⟨rfl, hx⟩
            exact ⟨_, rfl, hK _ _ ⟨hx, rfl⟩⟩
          refine ⟨⟨fun _ _ => trivial, fun ρ w' hX hG hk => ?_⟩, ?_⟩
          · obtain ⟨k0, k1, -⟩ := hk
            have e0 : ρ (.tmp 22) = Value.string (str [k, 46]) := k0
            have e1 : ρ (.tmp 24) = Value.string (str (dec n)) := k1
            clear k0 k1
            refine Par.val_k fun K hK => ?_
            unfold Par.val
            (go_simp; exact hK _ _ ⟨Ext.refl _, rfl⟩)
          refine ⟨⟨fun _ _ => trivial, fun ρ w' hX hG hk => ?_⟩, ?_⟩
          · exact Par.val_of_run rfl ⟨Ext.refl _, hk.1⟩
          refine ⟨⟨fun _ _ => trivial, fun ρ w' hX hG hk => ?_⟩, ?_⟩
          · exact Par.val_of_run rfl ⟨Ext.refl _, by first | rfl | exact hk.1⟩
          trivial
        intro a' w' inv
        have hX := inv.ext
        have q20 : a'.tmps.getD 20 undef = u8V k := inv.done 0 _ 20 rfl rfl rfl
        have q21 : (fun v w' => Byt w' v [k, 46]) (a'.tmps.getD 21 undef) w' := inv.done 1 _ 21 rfl rfl rfl
        have q22 : a'.tmps.getD 22 undef = Value.string (str [k, 46]) := inv.done 2 _ 22 rfl rfl rfl
        have q23 : a'.tmps.getD 23 undef = Value.int IntKind.u64 (n : Int) := inv.done 3 _ 23 rfl rfl rfl
        have q24 : a'.tmps.getD 24 undef = Value.string (str (dec n)) := inv.done 4 _ 24 rfl rfl rfl
        have q25 : a'.tmps.getD 25 undef = Value.string (str [k, 46] ++ str (dec n)) := inv.done 5 _ 25 rfl rfl rfl
        have q4 : a'.tmps.getD 4 undef = Value.string (str [k, 46] ++ str (dec n)) := inv.done 6 _ 4 rfl rfl rfl
        have q5 : a'.tmps.getD 5 undef = (Value.int IntKind.i64 0) := inv.done 7 _ 5 rfl rfl rfl
        clear inv
        simp only [List.filterMap_cons, List.filterMap_nil, Par.putAll, Act.put, List.setIfInBounds_toArray, List.set_cons_succ, List.set_cons_zero, q20, q22, q23, q24, q25, q4, q5]
        clear q20 q22 q23 q24 q25 q4 q5
        generalize a'.tmps.getD 21 undef = u21 at *
        clear a'
        go_wp2
        go_returns
        rw [HO.out]
        exact ⟨congrArg (fun z => Ending.returned (Value.tuple #[Value.string z, .int .i64 0])) (str_cat [k, 46] (dec n)), hX⟩
    · have HO : Hid (R = ([], 1)) := hid (by rw [← HR.out]; exact ofL_bad14 (fun h => hn2 h.2))
      have hd : decide ((9999999999 : Int) < (n : Int)) = true := by simp; omega
      have hk2 : k = 109 ∨ k = 101 ∨ k = 115 := by
        unfold letL at hk
        simpa using hk
      clear hn2 hk
      rcases hk2 with rfl | rfl | rfl
      · go_enter Tryd.func9, Tryd.ntmps9
        go_wp2
        go_returns
        rw [HO.out]
        exact ⟨rfl, Ext.refl _⟩
      · go_enter Tryd.func9, Tryd.ntmps9
        go_wp2
        go_returns
        rw [HO.out]
        exact ⟨rfl, Ext.refl _⟩
      · go_enter Tryd.func9, Tryd.ntmps9
        go_wp2
        go_returns
        rw [HO.out]
        exact ⟨rfl, Ext.refl _⟩
  · have HO : Hid (R = ([], 1)) := hid (by rw [← HR.out]; exact ofL_bad14 (fun h => hk h.1))
    have hk3 : k ≠ 109 ∧ k ≠ 101 ∧ k ≠ 115 := by
      unfold letL at hk
      simpa [not_or] using hk
    have hne : ∀ m : UInt8, k ≠ m → ((k.toNat : Int) != (m.toNat : Int)) = true := fun m h => by
      rw [bne_iff_ne]
      intro e
      exact h (UInt8.toNat_inj.1 (by omega))
    have b1 : ((k.toNat : Int) != 109) = true := hne 109 hk3.1
    have b2 : ((k.toNat : Int) != 101) = true := hne 101 hk3.2.1
    have b3 : ((k.toNat : Int) != 115) = true := hne 115 hk3.2.2
    clear hne hk3 hk
    go_enter Tryd.func9, Tryd.ntmps9
    go_wp2
    go_returns
    rw [HO.out]
    exact ⟨rfl, Ext.refl _⟩
end Go.Proofs.YtekjflndblgegaaDoor
