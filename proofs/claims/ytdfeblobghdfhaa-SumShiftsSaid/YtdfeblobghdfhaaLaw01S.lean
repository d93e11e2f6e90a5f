/- The statement SumShifts of layer 1. -/
import Derived.Test.YtdfeblobghdfhaaLaw01
import Derived.Test.YtdfeblobghdfhaaParB
import Derived.Deep.OwnRows
import Derived.Deep.Cut
namespace Go.Proofs.Ytdfeblobghdfhaa
open Go.RowKit Go.Tum Go.Tum.Crc

/-- Two rows of bytes, xor-ed. -/
def zx (l m : List UInt8) : List UInt8 := List.zipWith (· ^^^ ·) l m
theorem num_zx : ∀ (l m : List UInt8), l.length = m.length → num (zx l m) = num l ^^^ num m
  | [], [], _ => rfl
  | a :: r, b :: s, h => by
    have ih := num_zx r s (by simpa using h)
    show (a ^^^ b).toNat ^^^ 256 * num (zx r s) = _
    rw [ih, UInt8.toNat_xor, mul256_xor, num_cons, num_cons, xor_mid]
  | [], b :: s, h => by simp at h
  | a :: r, [], h => by simp at h
theorem num_zeros (n : Nat) : num (List.replicate n 0) = 0 := by
  induction n with
  | zero => rfl
  | succ n ih => rw [List.replicate_succ, num_cons, ih]; rfl
theorem sum_num (l : List UInt8) : Crc.sum l = divN (8 * l.length) (4294967295 ^^^ num l) ^^^ 4294967295 := by
  unfold Crc.sum more
  have := crcFold_lt l 4294967295 (by omega)
  rw [Nat.sub_zero, not_eq_xor _ this, crcFold_num]
theorem sum_zx (l m : List UInt8) (h : l.length = m.length) : Crc.sum (zx l m) = Crc.sum l ^^^ Crc.sum m ^^^ Crc.sum (List.replicate l.length 0) := by
  have hl : (zx l m).length = l.length := by simp [zx, h]
  rw [sum_num, sum_num, sum_num, sum_num, num_zx l m h, num_zeros, hl, List.length_replicate, ← h]
  generalize 8 * l.length = k
  have e1 : divN k (4294967295 ^^^ num l) = divN k 4294967295 ^^^ divN k (num l) := divN_xor _ _ _
  have e2 : divN k (4294967295 ^^^ num m) = divN k 4294967295 ^^^ divN k (num m) := divN_xor _ _ _
  have e3 : divN k (4294967295 ^^^ (num l ^^^ num m)) = divN k 4294967295 ^^^ (divN k (num l) ^^^ divN k (num m)) := by rw [divN_xor, divN_xor k (num l)]
  rw [e1, e2, e3, Nat.xor_zero]
  generalize divN k 4294967295 = F
  generalize divN k (num l) = a
  generalize divN k (num m) = b
  apply Nat.eq_of_testBit_eq; intro i
  simp only [Nat.testBit_xor]
  cases F.testBit i <;> cases a.testBit i <;> cases b.testBit i <;> cases Nat.testBit 4294967295 i <;> rfl
theorem sum_snoc (l : List UInt8) (x : UInt8) : Crc.sum (l ++ [x]) = 4294967295 - crcStep (crcFold 4294967295 l) x := by
  unfold Crc.sum more crcFold
  rw [List.foldl_append]; rfl
theorem sum_fold (l : List UInt8) : 4294967295 - Crc.sum l = crcFold 4294967295 l := by
  unfold Crc.sum more
  have := crcFold_lt l 4294967295 (by omega)
  rw [Nat.sub_zero]; omega
theorem zx_set (l m : List UInt8) (h : l.length = m.length) (k : Nat) (hk : k < l.length) :
    (zx (l.take k) (m.take k) ++ List.replicate (l.length - k) 0).set k (l[k] ^^^ m[k]'(by omega)) = zx (l.take (k + 1)) (m.take (k + 1)) ++ List.replicate (l.length - (k + 1)) 0 := by
  have e1 : (zx (l.take k) (m.take k)).length = k := by simp [zx]; omega
  rw [List.set_append_right _ _ (by omega), e1, Nat.sub_self, show l.length - k = (l.length - (k + 1)) + 1 by omega, List.replicate_succ, List.set_cons_zero]
  rw [List.take_succ_eq_append_getElem hk, List.take_succ_eq_append_getElem (show k < m.length by omega)]
  unfold zx
  rw [List.zipWith_append (by simp; omega)]
  simp

set_option maxRecDepth 100000 in
set_option maxHeartbeats 4000000 in
theorem sumShifts_law (u v : Value) (l m : List UInt8) (xi : Int) (x : UInt8) (hx : xi = (x.toNat : Int)) (w : World) (hb : Byt w u l) (hc : Byt w v m) :
    Calls Try.prog 6 #[u, v, .int .u8 xi] w fun e w' => e = .returned (.bool true) ∧ Ext w w' := by
  subst hx
  obtain ⟨ao, cap, rfl, hle, hm, hnn, hcell⟩ := hb.open
  obtain ⟨bo, cbp, rfl, hle2, hm2, hnn2, hcell2⟩ := hc.open
  have HB := hid hb
  have HC := hid hc
  have HCA := hid hcell
  have HCB := hid hcell2
  clear hb hc hcell hcell2
  by_cases h1 : 600 < l.length
  · have hd : decide (600 < (l.length : Int)) = true := by simp; omega
    go_enter Try.func6, Try.ntmps6
    go_wp2_with (go_at_call 7; refine (awake_any _).mono ?_; rintro e w1 ⟨rfl, hw1⟩)
    go_ret
    exact ⟨rfl, hw1⟩
  have hd : decide (600 < (l.length : Int)) = false := by simp; omega
  by_cases h2 : m.length = l.length
  case neg =>
    have hne : ((m.length : Int) != (l.length : Int)) = true := by simp; omega
    go_enter Try.func6, Try.ntmps6
    go_wp2_with (go_at_call 7; refine (awake_any _).mono ?_; rintro e w1 ⟨rfl, hw1⟩)
    go_ret
    exact ⟨rfl, hw1⟩
  have hne : ((m.length : Int) != (l.length : Int)) = false := by simp; omega
  have H2 := hid h2
  clear h2
  have hz := zero31
  have HS0 : Hid ((tabArr 0).size = (tabArr 256).size) := hid (by simp [tabArr])
  have HALL : Hid ((tabArr 256).all (·.oneCell') = true) := hid (by rw [← Array.all_toList]; simp [tabArr]; intro _ _; rfl)
  have hsg : IntKind.u32.signed = false := rfl
  have hslt := more_lt 0 l
  change Crc.sum l < 4294967296 at hslt
  have hnot := not_u32 (Crc.sum l) hslt
  have hmk : ∀ w, (Instr.makeSlice 23 (.int .i64 (l.length : Int)) (.int .i64 (l.length : Int))).run Try.prog w = .ok (.slice (some ⟨w.heap.size, 0, none⟩) l.length l.length) (w.alloc (.cells (madeCells #[.int .u8 0] l.length) 5)) :=
    fun w => run_make_row' 23 5 (.int .u8 0) 1 Try.underlying23 info5 rfl .i64 .i64 l.length (by omega) (by omega) w
  go_enter Try.func6, Try.ntmps6
  go_wp2_with (first
    | (go_at_call 7; refine (awake_any _).mono ?_; rintro e w1 ⟨rfl, hw1⟩)
    | (go_at_call 17; refine (table_any _).mono ?_; rintro e w2 ⟨rfl, hw2⟩)
    | (refine wpList_store_row rfl 31 (.tmp 7) (.tmp 24) rfl w2.heap.size (tabArr 256) rfl rfl 31 (tabArr 0) (heap_alloc_new _ _) (by kernel_rfl) HS0.out HALL.out ?_)
    | (go_at_call 10; have hW1 : Ext w ((w2.alloc (.cells (tabArr 0) 31)).setRow w2.heap.size (tabArr 256)) := (hw1.trans hw2).trans ⟨rfl, rfl, rfl, by simp, fun i hi => by rw [setRow_other _ _ _ _ (by omega)]; exact heap_alloc_old _ _ (by omega)⟩; refine (of_any _ l _ (HB.out.ext hW1)).mono ?_; rintro e w3 ⟨rfl, hw3⟩))
  have hW2 := hw3.obj (setRow_heap (w2.alloc (.cells (tabArr 0) 31)) w2.heap.size (tabArr 0) (tabArr 256) 31 (0, 0) (heap_alloc_new _ _))
  have hE3 := hW1.trans hw3
  generalize w2.heap.size = T at hW2 hE3
  have HT := hid hW2
  have HE3 := hid hE3
  clear hW1 hW2 hE3 hw3 hw2 hw1 hz HS0 HALL
  have hfold := sum_fold l
  have HF := hid hfold
  clear hfold
  go_cut [9, 10] from 28 (fun b9 b10 w' => ∃ g h, b9 = .slice (some ⟨g, 0, none⟩) l.length l.length ∧ b10 = .slice (some ⟨h, 0, none⟩) l.length l.length ∧ g ≠ h ∧ w3.heap.size ≤ g ∧ w3.heap.size ≤ h ∧
    w'.heap[g]? = some (.cells (madeCells #[.int .u8 0] l.length) 5 (0, 0)) ∧ w'.heap[h]? = some (.cells (madeCells #[.int .u8 0] l.length) 5 (0, 0)) ∧ Ext w3 w')
  case first =>
    go_region
    all_goals
      go_wp2
      go_meet
      case rel =>
        first
        | exact ⟨w3.heap.size, w3.heap.size + 1, rfl, rfl, by omega, by omega, by omega, heap_alloc2_old _ _ _, heap_alloc2_new _ _ _, ((Ext.alloc _ _).trans (Ext.alloc _ _)).trans (Ext.drew _)⟩
        | exact ⟨w3.heap.size + 1, w3.heap.size, rfl, rfl, by omega, by omega, by omega, heap_alloc2_new _ _ _, heap_alloc2_old _ _ _, ((Ext.alloc _ _).trans (Ext.alloc _ _)).trans (Ext.drew _)⟩
  case rest =>
    obtain ⟨g, h, rfl, rfl, hgh, hg, hh, hcg, hch, hE4⟩ := hcut
    have hz9 : (madeCells #[Value.int .u8 0] l.length).toList = (List.replicate l.length (0 : UInt8)).map bv := by rw [toList_madeCells_one]; simp [bv]
    have ho9 := own_of_heap hcg w3.heap.size hg (List.replicate l.length 0) hz9 l.length (by simp) (by simp [maxLen]; omega)
    have ho10 := own_of_heap hch w3.heap.size hh (List.replicate l.length 0) hz9 l.length (by simp) (by simp [maxLen]; omega)
    have HO9 := hid ho9
    have HO10 := hid ho10
    have HE4 := hid hE4
    have HGH := hid hgh
    have HG := hid hg
    clear hcg hch hz9 ho9 ho10 hE4 hg hh hmk hnot
    go_wp2
    go_loopw [36] (fun i wr => ∃ k : Nat, k ≤ l.length ∧ i = .int .i64 k ∧ Hid (Own wr w3.heap.size 5 (.slice (some ⟨g, 0, none⟩) l.length l.length) (zx (l.take k) (m.take k) ++ List.replicate (l.length - k) 0)) ∧
      Hid (Own wr w3.heap.size 5 (.slice (some ⟨h, 0, none⟩) l.length l.length) (List.replicate l.length 0)) ∧ Hid (Below w3.heap.size w3 wr)) (fun i _ => l.length - (intOf i).toNat)
    case atStart => exact ⟨0, by omega, rfl, hid (by simpa [zx] using HO9.out), HO10, HE4⟩
    case round =>
      obtain ⟨k, hk, rfl, HK9, HK10, HBE⟩ := hrel
      have HE5 : Hid (Ext w wr) := hid (HE3.out.below (HBE.out.mono HE3.out.size))
      by_cases hlt : k < l.length
      · have hlt2 : k < m.length := by rw [H2.out]; exact hlt
        obtain ⟨a, rfl⟩ := hnn (by omega)
        obtain ⟨b, rfl⟩ := hnn2 (by omega)
        have hc1 := HE5.out.cell (HCA.out a rfl k hlt)
        have hc2 := HE5.out.cell (HCB.out b rfl k hlt2)
        have hjl : k < (zx (l.take k) (m.take k) ++ List.replicate (l.length - k) 0).length := by simp [zx]; omega
        have hcg := HK9.out.cell k hjl
        have hfg := HK9.out.frozen k
        have hx8 : bits .xor .u8 (l[k].toNat : Int) (m[k].toNat : Int) = (((l[k] ^^^ m[k]).toNat : Nat) : Int) := by
          rw [UInt8.toNat_xor]; exact u8_xor_nat _ _ l[k].toNat_lt m[k].toNat_lt
        have hi1 : (k : Int) < l.length := by omega
        have hi2 : (k : Int) < m.length := by omega
        generalize (zx (l.take k) (m.take k) ++ List.replicate (l.length - k) 0)[k] = c0 at hcg
        have HZS := hid (zx_set l m H2.out.symm k hlt)
        clear hjl
        go_wp2
        go_region
        go_wp2
        go_roundw
        case rel =>
          refine ⟨k + 1, by omega, by go_num, hid ?_, hid ?_, hid ?_⟩
          · have := HK9.out.set k _ (l[k] ^^^ m[k]) rfl
            rw [HZS.out] at this
            exact this.drew
          · exact (HK10.out.setOther ⟨g, k, none⟩ _ HGH.out).drew
          · exact (Below.setCell HBE.out HG.out _).drew
        case measure => simp [intOf]; omega
      · obtain rfl : k = l.length := by omega
        have HK : Hid (Byt wr (.slice (some ⟨g, 0, none⟩) l.length l.length) (zx l m)) := by
          have := HK9.out.byt
          rw [List.take_length, ← H2.out, List.take_length, H2.out, Nat.sub_self, List.replicate_zero, List.append_nil] at this
          exact hid this
        have hEw : Ext w3 wr ∨ True := .inr trivial
        have HTr : ∀ j, j < 256 → wr.cell? ⟨T, j, none⟩ = some (.int .u32 (tab j : Nat)) := fun j hj => by
          have hTl : T < w3.heap.size := (Array.getElem?_eq_some_iff.1 HT.out).1
          have e1 := HBE.out.block T hTl
          rw [HT.out] at e1
          rw [cell_of_row wr _ _ _ _ _ e1]; exact tabArr_get hj hj
        generalize hN : crcFold 4294967295 l = N at HF
        have hNlt : N < 4294967296 := by rw [← hN]; exact crcFold_lt l _ (by omega)
        have hxl := x.toNat_lt
        have hlt8 : N % 256 ^^^ x.toNat < 256 := Nat.xor_lt_two_pow (n := 8) (by omega) (by omega)
        have hsx := sum_snoc l x
        rw [hN] at hsx
        have hcs := crcStep_lt N x hNlt
        rw [HF.out]
        have HSX := hid hsx
        have HLT8 := hid hlt8
        have HN := hid hN
        have hx8 : bits .xor .u8 ((N : Int) % 256) (x.toNat : Int) = ((N % 256 ^^^ x.toNat : Nat) : Int) := u8_xor_nat (N % 256) _ (by omega) (by omega)
        have hx32 : bits .xor .u32 ((N : Int) / 256) ((tab (N % 256 ^^^ x.toNat) : Nat) : Int) = ((crcStep N x : Nat) : Int) := by
          have := u32_xor_nat (N / 256) _ (by omega) (tab_lt _ hlt8)
          rw [crcStep_tab]; exact this
        have hnot2 := not_u32 (crcStep N x) hcs
        have hs1 := more_lt 0 m
        have hs2 := more_lt 0 (List.replicate l.length 0)
        change Crc.sum m < 4294967296 at hs1
        change Crc.sum (List.replicate l.length 0) < 4294967296 at hs2
        have hxa : bits .xor .u32 ((Crc.sum l : Nat) : Int) ((Crc.sum m : Nat) : Int) = ((Crc.sum l ^^^ Crc.sum m : Nat) : Int) := u32_xor_nat _ _ hslt hs1
        have hxb : bits .xor .u32 ((Crc.sum l ^^^ Crc.sum m : Nat) : Int) ((Crc.sum (List.replicate l.length 0) : Nat) : Int) = ((Crc.sum (zx l m) : Nat) : Int) := by
          rw [u32_xor_nat _ _ (Nat.xor_lt_two_pow (n := 32) hslt hs1) hs2, sum_zx l m H2.out.symm]
        have HB5 := hid (HB.out.ext HE5.out)
        have HC5 := hid (HC.out.ext HE5.out)
        have HZ5 := hid HK10.out.byt
        have HTR := hid HTr
        clear hN hsx hlt8 HTr hEw
        go_wp2
        refine ParB.wp_region_par (l := [_, _, _, _, _, _, _, _, _, _, _, _, _, _, _, _, _, _, _, _, _, _, _, _, _, _, _, _, _, _, _, _]) rfl Ext (ParB.XI 5 (World.heap wr).size) (ParB.VLB [(fun L v w' => L 2 = true ∨ ((∃ b, v = .slice (some b) 0 0) ∧ Own w' wr.heap.size 5 v [])), ParB.EQ (Value.slice ao l.length cap), (fun L v w' => L 5 = true ∨ ((∃ ao cap, v = .slice ao l.length cap) ∧ Own w' wr.heap.size 5 v l)), ParB.EQ (Value.int IntKind.u8 (x.toNat : Int)), (fun L v w' => L 5 = true ∨ Byt w' v [x]), (fun L v w' => Byt w' v (l ++ [x])), ParB.EQ (Value.int IntKind.u32 ((Crc.sum (l ++ [x]) : Nat) : Int)), ParB.EQ (Value.int IntKind.u32 (N : Int)), ParB.EQ (Value.int IntKind.u32 ((N : Int) / 256)), ParB.EQ (Value.int IntKind.u32 (N : Int)), ParB.EQ (Value.int IntKind.u8 ((N : Int) % 256)), ParB.EQ (Value.int IntKind.u8 (x.toNat : Int)), ParB.EQ (Value.int IntKind.u8 ((N % 256 ^^^ x.toNat : Nat) : Int)), ParB.EQ (Value.pointer (some { block := T, off := N % 256 ^^^ x.toNat })), ParB.EQ (Value.int IntKind.u32 ((tab (N % 256 ^^^ x.toNat) : Nat) : Int)), ParB.EQ (Value.int IntKind.u32 ((crcStep N x : Nat) : Int)), ParB.EQ (Value.int IntKind.u32 ((4294967295 - crcStep N x : Nat) : Int)), ParB.EQ (Value.bool true), ParB.EQ (Value.bool true), ParB.EQ (Value.slice (some { block := g, off := 0 }) l.length l.length), ParB.EQ (Value.int IntKind.u32 ((Crc.sum (zx l m) : Nat) : Int)), ParB.EQ (Value.slice ao l.length cap), ParB.EQ (Value.int IntKind.u32 ((Crc.sum l : Nat) : Int)), ParB.EQ (Value.slice bo m.length cbp), ParB.EQ (Value.int IntKind.u32 ((Crc.sum m : Nat) : Int)), ParB.EQ (Value.int IntKind.u32 ((Crc.sum l ^^^ Crc.sum m : Nat) : Int)), ParB.EQ (Value.slice (some { block := h, off := 0 }) l.length l.length), ParB.EQ (Value.int IntKind.u32 ((Crc.sum (List.replicate l.length 0) : Nat) : Int)), ParB.EQ (Value.int IntKind.u32 ((Crc.sum (zx l m) : Nat) : Int)), ParB.EQ (Value.bool true), ParB.EQ (Value.bool true), ParB.EQ (Value.bool true)]) (by kernel_rfl) (ParB.XI_refl _ _) ParB.XI_trans (Ext.draw _) (ParB.stab_mk 2 (by kernel_rfl) ?_ ?_) ?_ ?_
        · simp only [List.forall_mem_cons, List.not_mem_nil, false_implies, implies_true, and_true]
          refine ⟨fun i L v a b k hh => hh.imp (fun e => by simp [ParB.upd, e]) (fun q => ⟨q.1, q.2.ext k⟩), fun _ _ _ _ _ _ h => h, fun i L v a b k hh => hh.imp (fun e => by simp [ParB.upd, e]) (fun q => ⟨q.1, q.2.ext k⟩), fun _ _ _ _ _ _ h => h, fun i L v a b k hh => hh.imp (fun e => by simp [ParB.upd, e]) (fun q => q.ext k), fun i L v a b k hh => hh.ext k, fun _ _ _ _ _ _ h => h, fun _ _ _ _ _ _ h => h, fun _ _ _ _ _ _ h => h, fun _ _ _ _ _ _ h => h, fun _ _ _ _ _ _ h => h, fun _ _ _ _ _ _ h => h, fun _ _ _ _ _ _ h => h, fun _ _ _ _ _ _ h => h, fun _ _ _ _ _ _ h => h, fun _ _ _ _ _ _ h => h, fun _ _ _ _ _ _ h => h, fun _ _ _ _ _ _ h => h, fun _ _ _ _ _ _ h => h, fun _ _ _ _ _ _ h => h, fun _ _ _ _ _ _ h => h, fun _ _ _ _ _ _ h => h, fun _ _ _ _ _ _ h => h, fun _ _ _ _ _ _ h => h, fun _ _ _ _ _ _ h => h, fun _ _ _ _ _ _ h => h, fun _ _ _ _ _ _ h => h, fun _ _ _ _ _ _ h => h, fun _ _ _ _ _ _ h => h, fun _ _ _ _ _ _ h => h, fun _ _ _ _ _ _ h => h, fun _ _ _ _ _ _ h => h⟩
        · simp only [List.set_cons_succ, List.set_cons_zero, List.forall_mem_cons, List.not_mem_nil, false_implies, implies_true, and_true, true_and]
          refine ⟨fun L v a b hL k hh => .inl (by simp [ParB.upd, hL]), fun _ _ _ _ _ _ h => h, fun L v a b hL k hh => .inl (by simp [ParB.upd]), fun _ _ _ _ _ _ h => h, fun L v a b hL k hh => .inl (by simp [ParB.upd]), fun _ _ _ _ _ _ h => h, fun _ _ _ _ _ _ h => h, fun _ _ _ _ _ _ h => h, fun _ _ _ _ _ _ h => h, fun _ _ _ _ _ _ h => h, fun _ _ _ _ _ _ h => h, fun _ _ _ _ _ _ h => h, fun _ _ _ _ _ _ h => h, fun _ _ _ _ _ _ h => h, fun _ _ _ _ _ _ h => h, fun _ _ _ _ _ _ h => h, fun _ _ _ _ _ _ h => h, fun _ _ _ _ _ _ h => h, fun _ _ _ _ _ _ h => h, fun _ _ _ _ _ _ h => h, fun _ _ _ _ _ _ h => h, fun _ _ _ _ _ _ h => h, fun _ _ _ _ _ _ h => h, fun _ _ _ _ _ _ h => h, fun _ _ _ _ _ _ h => h, fun _ _ _ _ _ _ h => h, fun _ _ _ _ _ _ h => h, fun _ _ _ _ _ _ h => h, fun _ _ _ _ _ _ h => h, fun _ _ _ _ _ _ h => h, fun _ _ _ _ _ _ h => h⟩
        · refine ⟨⟨fun _ _ _ => trivial, fun L ρ w' hX hL hG hk => ?_⟩, ?_⟩
          · obtain ⟨-⟩ := hk
            skip
            refine Par.val_k fun K hK => ?_
            unfold Par.val
            (go_simp; exact hK _ _ ⟨ParB.XI_other (i0 := 5) (i := 0) (by decide) (Ext.alloc _ _), .inr ⟨⟨_, rfl⟩, own_lit w' _ _ [] _ rfl 0 rfl hX.size (by simp [maxLen])⟩⟩)
          refine ⟨⟨fun _ _ _ => trivial, fun L ρ w' hX hL hG hk => ?_⟩, ?_⟩
          · exact Par.val_of_run rfl ⟨ParB.XI_refl _ _ 1 _, hk.1⟩
          refine ⟨⟨fun _ _ _ => trivial, fun L ρ w' hX hL hG hk => ?_⟩, ?_⟩
          · obtain ⟨k0, k1, -⟩ := hk
            have e0 : (fun L v w' => L 2 = true ∨ ((∃ b, v = .slice (some b) 0 0) ∧ Own w' wr.heap.size 5 v [])) L (ρ (.tmp 52)) w' := k0
            have e1 : ρ (.tmp 53) = Value.slice ao l.length cap := k1
            clear k0 k1
            refine Par.val_k fun K hK => ?_
            unfold Par.val
            (obtain ⟨⟨b, hb⟩, ho⟩ := e0.resolve_left (by simp [hL]); obtain ⟨ao2, cap2, w2, hr, ho2, hx2⟩ := run_append_empty (P := Try.prog) wr.heap.size 23 23 5 Try.underlying23 info5 hb ho (e1 ▸ HB5.out.ext hX) (by omega) hX.size; refine Par.val_append hr (hK _ _ ⟨ParB.XI_other (i0 := 5) (i := 2) (by decide) hx2, .inr ⟨⟨_, _, rfl⟩, ho2⟩⟩))
          refine ⟨⟨fun _ _ _ => trivial, fun L ρ w' hX hL hG hk => ?_⟩, ?_⟩
          · exact Par.val_of_run rfl ⟨ParB.XI_refl _ _ 3 _, hk.1⟩
          refine ⟨⟨fun _ _ _ => trivial, fun L ρ w' hX hL hG hk => ?_⟩, ?_⟩
          · obtain ⟨k0, -⟩ := hk
            have e0 : ρ (.tmp 55) = Value.int IntKind.u8 (x.toNat : Int) := k0
            clear k0
            refine Par.val_k fun K hK => ?_
            unfold Par.val
            (go_simp; exact hK _ _ ⟨ParB.XI_other (i0 := 5) (i := 4) (by decide) (Ext.alloc _ _), .inr (Byt.one _ _ _ x rfl)⟩)
          refine ⟨⟨fun _ _ _ => trivial, fun L ρ w' hX hL hG hk => ?_⟩, ?_⟩
          · obtain ⟨k0, k1, -⟩ := hk
            have e0 : (fun L v w' => L 5 = true ∨ ((∃ ao cap, v = .slice ao l.length cap) ∧ Own w' wr.heap.size 5 v l)) L (ρ (.tmp 54)) w' := k0
            have e1 : (fun L v w' => L 5 = true ∨ Byt w' v [x]) L (ρ (.tmp 56)) w' := k1
            clear k0 k1
            refine Par.val_k fun K hK => ?_
            unfold Par.val
            (obtain ⟨⟨ao1, cap1, hv1⟩, ho⟩ := e0.resolve_left (by simp [hL]); have hby := e1.resolve_left (by simp [hL]); obtain ⟨ao2, cap2, w2, hr, ho2, hg2, hb2⟩ := run_append_byt (P := Try.prog) wr.heap.size 23 23 5 Try.underlying23 info5 ho hby (by simp; omega) hX.size; refine Par.val_append hr (hK _ _ ⟨ParB.XI_same hb2, ho2.byt⟩))
          refine ⟨⟨fun _ _ _ => trivial, fun L ρ w' hX hL hG hk => ?_⟩, ?_⟩
          · obtain ⟨k0, k1, -⟩ := hk
            have e0 := k0
            have e1 : (fun L v w' => Byt w' v (l ++ [x])) L (ρ (.tmp 57)) w' := k1
            clear k0 k1
            refine Par.val_k fun K hK => ?_
            unfold Par.val
            refine Par.val_call Try.func10 (by kernel_rfl) rfl e0 ?_
            simp only [List.map_toArray, List.map_cons, List.map_nil]
            refine (of_any _ _ _ e1).mono ?_
            rintro e w2 ⟨rfl, h2⟩
            exact ⟨_, rfl, hK _ _ ⟨ParB.XI_other (i0 := 5) (i := 6) (by decide) (h2), rfl⟩⟩
          refine ⟨⟨fun _ _ _ => trivial, fun L ρ w' hX hL hG hk => ?_⟩, ?_⟩
          · exact Par.val_of_run rfl ⟨ParB.XI_refl _ _ 7 _, hk.1⟩
          refine ⟨⟨fun _ _ _ => trivial, fun L ρ w' hX hL hG hk => ?_⟩, ?_⟩
          · obtain ⟨k0, k1, -⟩ := hk
            have e0 : ρ (.tmp 59) = Value.int IntKind.u32 (N : Int) := k0
            have e1 : ρ (Operand.const (Value.int IntKind.u64 8)) = (Value.int IntKind.u64 8) := k1
            clear k0 k1
            refine Par.val_k fun K hK => ?_
            unfold Par.val
            (go_simp; exact hK _ _ ⟨ParB.XI_refl _ _ 8 _, rfl⟩)
          refine ⟨⟨fun _ _ _ => trivial, fun L ρ w' hX hL hG hk => ?_⟩, ?_⟩
          · exact Par.val_of_run rfl ⟨ParB.XI_refl _ _ 9 _, hk.1⟩
          refine ⟨⟨fun _ _ _ => trivial, fun L ρ w' hX hL hG hk => ?_⟩, ?_⟩
          · obtain ⟨k0, -⟩ := hk
            have e0 : ρ (.tmp 61) = Value.int IntKind.u32 (N : Int) := k0
            clear k0
            refine Par.val_k fun K hK => ?_
            unfold Par.val
            (go_simp; exact hK _ _ ⟨ParB.XI_refl _ _ 10 _, rfl⟩)
          refine ⟨⟨fun _ _ _ => trivial, fun L ρ w' hX hL hG hk => ?_⟩, ?_⟩
          · exact Par.val_of_run rfl ⟨ParB.XI_refl _ _ 11 _, hk.1⟩
          refine ⟨⟨fun _ _ _ => trivial, fun L ρ w' hX hL hG hk => ?_⟩, ?_⟩
          · obtain ⟨k0, k1, -⟩ := hk
            have e0 : ρ (.tmp 62) = Value.int IntKind.u8 ((N : Int) % 256) := k0
            have e1 : ρ (.tmp 63) = Value.int IntKind.u8 (x.toNat : Int) := k1
            clear k0 k1
            refine Par.val_k fun K hK => ?_
            unfold Par.val
            (go_simp; exact hK _ _ ⟨ParB.XI_refl _ _ 12 _, rfl⟩)
          refine ⟨⟨fun _ _ _ => trivial, fun L ρ w' hX hL hG hk => ?_⟩, ?_⟩
          · obtain ⟨k0, k1, -⟩ := hk
            have e0 : ρ (.tmp 7) = Value.pointer (some { block := T, off := 0 }) := k0
            have e1 : ρ (.tmp 64) = Value.int IntKind.u8 ((N % 256 ^^^ x.toNat : Nat) : Int) := k1
            clear k0 k1
            refine Par.val_k fun K hK => ?_
            unfold Par.val
            (have hI : ((N % 256 ^^^ x.toNat : Nat) : Int) < 256 := (by have := HLT8.out; omega); go_simp; exact hK _ _ ⟨ParB.XI_refl _ _ 13 _, rfl⟩)
          refine ⟨⟨fun _ _ _ => trivial, fun L ρ w' hX hL hG hk => ?_⟩, ?_⟩
          · obtain ⟨k0, -⟩ := hk
            have e0 : ρ (.tmp 65) = Value.pointer (some { block := T, off := N % 256 ^^^ x.toNat }) := k0
            clear k0
            refine Par.val_k fun K hK => ?_
            unfold Par.val
            (have hcT := hX.cell (HTR.out _ HLT8.out); go_simp; exact hK _ _ ⟨ParB.XI_refl _ _ 14 _, rfl⟩)
          refine ⟨⟨fun _ _ _ => trivial, fun L ρ w' hX hL hG hk => ?_⟩, ?_⟩
          · obtain ⟨k0, k1, -⟩ := hk
            have e0 : ρ (.tmp 60) = Value.int IntKind.u32 ((N : Int) / 256) := k0
            have e1 : ρ (.tmp 66) = Value.int IntKind.u32 ((tab (N % 256 ^^^ x.toNat) : Nat) : Int) := k1
            clear k0 k1
            refine Par.val_k fun K hK => ?_
            unfold Par.val
            (go_simp; exact hK _ _ ⟨ParB.XI_refl _ _ 15 _, rfl⟩)
          refine ⟨⟨fun _ _ _ => trivial, fun L ρ w' hX hL hG hk => ?_⟩, ?_⟩
          · obtain ⟨k0, -⟩ := hk
            have e0 : ρ (.tmp 67) = Value.int IntKind.u32 ((crcStep N x : Nat) : Int) := k0
            clear k0
            refine Par.val_k fun K hK => ?_
            unfold Par.val
            (go_simp; exact hK _ _ ⟨ParB.XI_refl _ _ 16 _, rfl⟩)
          refine ⟨⟨fun _ _ _ => trivial, fun L ρ w' hX hL hG hk => ?_⟩, ?_⟩
          · obtain ⟨k0, k1, -⟩ := hk
            have e0 : ρ (.tmp 58) = Value.int IntKind.u32 ((Crc.sum (l ++ [x]) : Nat) : Int) := k0
            have e1 : ρ (.tmp 68) = Value.int IntKind.u32 ((4294967295 - crcStep N x : Nat) : Int) := k1
            clear k0 k1
            refine Par.val_k fun K hK => ?_
            unfold Par.val
            (rw [HSX.out] at e0; go_simp; exact hK _ _ ⟨ParB.XI_refl _ _ 17 _, rfl⟩)
          refine ⟨⟨fun _ _ _ => trivial, fun L ρ w' hX hL hG hk => ?_⟩, ?_⟩
          · exact Par.val_of_run rfl ⟨ParB.XI_refl _ _ 18 _, hk.1⟩
          refine ⟨⟨fun _ _ _ u hu => .inl hu, fun L ρ w' hX hL hG hk => ?_⟩, ?_⟩
          · exact Par.val_of_run rfl ⟨ParB.XI_refl _ _ 19 _, hk.1⟩
          refine ⟨⟨fun _ _ _ u hu => .inl hu, fun L ρ w' hX hL hG hk => ?_⟩, ?_⟩
          · obtain ⟨k0, k1, -⟩ := hk
            have e0 := k0
            have e1 : ρ (.tmp 71) = Value.slice (some { block := g, off := 0 }) l.length l.length := k1
            clear k0 k1
            refine Par.val_k fun K hK => ?_
            unfold Par.val
            refine Par.val_call Try.func10 (by kernel_rfl) rfl e0 ?_
            simp only [List.map_toArray, List.map_cons, List.map_nil, e1]
            refine (of_any _ _ _ (HK.out.ext hX)).mono ?_
            rintro e w2 ⟨rfl, h2⟩
            exact ⟨_, rfl, hK _ _ ⟨ParB.XI_other (i0 := 5) (i := 20) (by decide) (h2), rfl⟩⟩
          refine ⟨⟨fun _ _ _ u hu => .inl hu, fun L ρ w' hX hL hG hk => ?_⟩, ?_⟩
          · exact Par.val_of_run rfl ⟨ParB.XI_refl _ _ 21 _, hk.1⟩
          refine ⟨⟨fun _ _ _ u hu => .inl hu, fun L ρ w' hX hL hG hk => ?_⟩, ?_⟩
          · obtain ⟨k0, k1, -⟩ := hk
            have e0 := k0
            have e1 : ρ (.tmp 73) = Value.slice ao l.length cap := k1
            clear k0 k1
            refine Par.val_k fun K hK => ?_
            unfold Par.val
            refine Par.val_call Try.func10 (by kernel_rfl) rfl e0 ?_
            simp only [List.map_toArray, List.map_cons, List.map_nil, e1]
            refine (of_any _ _ _ (HB5.out.ext hX)).mono ?_
            rintro e w2 ⟨rfl, h2⟩
            exact ⟨_, rfl, hK _ _ ⟨ParB.XI_other (i0 := 5) (i := 22) (by decide) (h2), rfl⟩⟩
          refine ⟨⟨fun _ _ _ u hu => .inl hu, fun L ρ w' hX hL hG hk => ?_⟩, ?_⟩
          · exact Par.val_of_run rfl ⟨ParB.XI_refl _ _ 23 _, hk.1⟩
          refine ⟨⟨fun _ _ _ u hu => .inl hu, fun L ρ w' hX hL hG hk => ?_⟩, ?_⟩
          · obtain ⟨k0, k1, -⟩ := hk
            have e0 := k0
            have e1 : ρ (.tmp 75) = Value.slice bo m.length cbp := k1
            clear k0 k1
            refine Par.val_k fun K hK => ?_
            unfold Par.val
            refine Par.val_call Try.func10 (by kernel_rfl) rfl e0 ?_
            simp only [List.map_toArray, List.map_cons, List.map_nil, e1]
            refine (of_any _ _ _ (HC5.out.ext hX)).mono ?_
            rintro e w2 ⟨rfl, h2⟩
            exact ⟨_, rfl, hK _ _ ⟨ParB.XI_other (i0 := 5) (i := 24) (by decide) (h2), rfl⟩⟩
          refine ⟨⟨fun _ _ _ u hu => .inl hu, fun L ρ w' hX hL hG hk => ?_⟩, ?_⟩
          · obtain ⟨k0, k1, -⟩ := hk
            have e0 : ρ (.tmp 74) = Value.int IntKind.u32 ((Crc.sum l : Nat) : Int) := k0
            have e1 : ρ (.tmp 76) = Value.int IntKind.u32 ((Crc.sum m : Nat) : Int) := k1
            clear k0 k1
            refine Par.val_k fun K hK => ?_
            unfold Par.val
            (go_simp; exact hK _ _ ⟨ParB.XI_refl _ _ 25 _, rfl⟩)
          refine ⟨⟨fun _ _ _ u hu => .inl hu, fun L ρ w' hX hL hG hk => ?_⟩, ?_⟩
          · exact Par.val_of_run rfl ⟨ParB.XI_refl _ _ 26 _, hk.1⟩
          refine ⟨⟨fun _ _ _ u hu => .inl hu, fun L ρ w' hX hL hG hk => ?_⟩, ?_⟩
          · obtain ⟨k0, k1, -⟩ := hk
            have e0 := k0
            have e1 : ρ (.tmp 78) = Value.slice (some { block := h, off := 0 }) l.length l.length := k1
            clear k0 k1
            refine Par.val_k fun K hK => ?_
            unfold Par.val
            refine Par.val_call Try.func10 (by kernel_rfl) rfl e0 ?_
            simp only [List.map_toArray, List.map_cons, List.map_nil, e1]
            refine (of_any _ _ _ (HZ5.out.ext hX)).mono ?_
            rintro e w2 ⟨rfl, h2⟩
            exact ⟨_, rfl, hK _ _ ⟨ParB.XI_other (i0 := 5) (i := 27) (by decide) (h2), rfl⟩⟩
          refine ⟨⟨fun _ _ _ u hu => .inl hu, fun L ρ w' hX hL hG hk => ?_⟩, ?_⟩
          · obtain ⟨k0, k1, -⟩ := hk
            have e0 : ρ (.tmp 77) = Value.int IntKind.u32 ((Crc.sum l ^^^ Crc.sum m : Nat) : Int) := k0
            have e1 : ρ (.tmp 79) = Value.int IntKind.u32 ((Crc.sum (List.replicate l.length 0) : Nat) : Int) := k1
            clear k0 k1
            refine Par.val_k fun K hK => ?_
            unfold Par.val
            (go_simp; exact hK _ _ ⟨ParB.XI_refl _ _ 28 _, rfl⟩)
          refine ⟨⟨fun _ _ _ u hu => .inl hu, fun L ρ w' hX hL hG hk => ?_⟩, ?_⟩
          · obtain ⟨k0, k1, -⟩ := hk
            have e0 : ρ (.tmp 72) = Value.int IntKind.u32 ((Crc.sum (zx l m) : Nat) : Int) := k0
            have e1 : ρ (.tmp 80) = Value.int IntKind.u32 ((Crc.sum (zx l m) : Nat) : Int) := k1
            clear k0 k1
            refine Par.val_k fun K hK => ?_
            unfold Par.val
            (go_simp; exact hK _ _ ⟨ParB.XI_refl _ _ 29 _, rfl⟩)
          refine ⟨⟨fun _ _ _ => trivial, fun L ρ w' hX hL hG hk => ?_⟩, ?_⟩
          · obtain ⟨k0, k1, k2, -⟩ := hk
            have e0 : ρ (.tmp 70) = Value.bool true := k0
            have e1 : ρ (.tmp 81) = Value.bool true := k1
            have e2 : ρ (Operand.const (Value.bool false)) = (Value.bool false) := k2
            clear k0 k1 k2
            refine Par.val_k fun K hK => ?_
            unfold Par.val
            (go_simp; exact hK _ _ ⟨ParB.XI_refl _ _ 30 _, rfl⟩)
          refine ⟨⟨fun _ _ _ => trivial, fun L ρ w' hX hL hG hk => ?_⟩, ?_⟩
          · exact Par.val_of_run rfl ⟨ParB.XI_refl _ _ 31 _, hk.1⟩
          trivial
        intro a' w' inv
        have hX := inv.ext
        have q52 : (fun L v w' => L 2 = true ∨ ((∃ b, v = .slice (some b) 0 0) ∧ Own w' wr.heap.size 5 v [])) (ParB.Lof (Array.replicate 32 true)) (a'.tmps.getD 52 undef) w' := inv.done 0 _ 52 rfl rfl rfl
        have q53 : a'.tmps.getD 53 undef = Value.slice ao l.length cap := inv.done 1 _ 53 rfl rfl rfl
        have q54 : (fun L v w' => L 5 = true ∨ ((∃ ao cap, v = .slice ao l.length cap) ∧ Own w' wr.heap.size 5 v l)) (ParB.Lof (Array.replicate 32 true)) (a'.tmps.getD 54 undef) w' := inv.done 2 _ 54 rfl rfl rfl
        have q55 : a'.tmps.getD 55 undef = Value.int IntKind.u8 (x.toNat : Int) := inv.done 3 _ 55 rfl rfl rfl
        have q56 : (fun L v w' => L 5 = true ∨ Byt w' v [x]) (ParB.Lof (Array.replicate 32 true)) (a'.tmps.getD 56 undef) w' := inv.done 4 _ 56 rfl rfl rfl
        have q57 : (fun L v w' => Byt w' v (l ++ [x])) (ParB.Lof (Array.replicate 32 true)) (a'.tmps.getD 57 undef) w' := inv.done 5 _ 57 rfl rfl rfl
        have q58 : a'.tmps.getD 58 undef = Value.int IntKind.u32 ((Crc.sum (l ++ [x]) : Nat) : Int) := inv.done 6 _ 58 rfl rfl rfl
        have q59 : a'.tmps.getD 59 undef = Value.int IntKind.u32 (N : Int) := inv.done 7 _ 59 rfl rfl rfl
        have q60 : a'.tmps.getD 60 undef = Value.int IntKind.u32 ((N : Int) / 256) := inv.done 8 _ 60 rfl rfl rfl
        have q61 : a'.tmps.getD 61 undef = Value.int IntKind.u32 (N : Int) := inv.done 9 _ 61 rfl rfl rfl
        have q62 : a'.tmps.getD 62 undef = Value.int IntKind.u8 ((N : Int) % 256) := inv.done 10 _ 62 rfl rfl rfl
        have q63 : a'.tmps.getD 63 undef = Value.int IntKind.u8 (x.toNat : Int) := inv.done 11 _ 63 rfl rfl rfl
        have q64 : a'.tmps.getD 64 undef = Value.int IntKind.u8 ((N % 256 ^^^ x.toNat : Nat) : Int) := inv.done 12 _ 64 rfl rfl rfl
        have q65 : a'.tmps.getD 65 undef = Value.pointer (some { block := T, off := N % 256 ^^^ x.toNat }) := inv.done 13 _ 65 rfl rfl rfl
        have q66 : a'.tmps.getD 66 undef = Value.int IntKind.u32 ((tab (N % 256 ^^^ x.toNat) : Nat) : Int) := inv.done 14 _ 66 rfl rfl rfl
        have q67 : a'.tmps.getD 67 undef = Value.int IntKind.u32 ((crcStep N x : Nat) : Int) := inv.done 15 _ 67 rfl rfl rfl
        have q68 : a'.tmps.getD 68 undef = Value.int IntKind.u32 ((4294967295 - crcStep N x : Nat) : Int) := inv.done 16 _ 68 rfl rfl rfl
        have q69 : a'.tmps.getD 69 undef = Value.bool true := inv.done 17 _ 69 rfl rfl rfl
        have q70 : a'.tmps.getD 70 undef = Value.bool true := inv.done 18 _ 70 rfl rfl rfl
        have q71 : a'.tmps.getD 71 undef = Value.slice (some { block := g, off := 0 }) l.length l.length := inv.done 19 _ 71 rfl rfl rfl
        have q72 : a'.tmps.getD 72 undef = Value.int IntKind.u32 ((Crc.sum (zx l m) : Nat) : Int) := inv.done 20 _ 72 rfl rfl rfl
        have q73 : a'.tmps.getD 73 undef = Value.slice ao l.length cap := inv.done 21 _ 73 rfl rfl rfl
        have q74 : a'.tmps.getD 74 undef = Value.int IntKind.u32 ((Crc.sum l : Nat) : Int) := inv.done 22 _ 74 rfl rfl rfl
        have q75 : a'.tmps.getD 75 undef = Value.slice bo m.length cbp := inv.done 23 _ 75 rfl rfl rfl
        have q76 : a'.tmps.getD 76 undef = Value.int IntKind.u32 ((Crc.sum m : Nat) : Int) := inv.done 24 _ 76 rfl rfl rfl
        have q77 : a'.tmps.getD 77 undef = Value.int IntKind.u32 ((Crc.sum l ^^^ Crc.sum m : Nat) : Int) := inv.done 25 _ 77 rfl rfl rfl
        have q78 : a'.tmps.getD 78 undef = Value.slice (some { block := h, off := 0 }) l.length l.length := inv.done 26 _ 78 rfl rfl rfl
        have q79 : a'.tmps.getD 79 undef = Value.int IntKind.u32 ((Crc.sum (List.replicate l.length 0) : Nat) : Int) := inv.done 27 _ 79 rfl rfl rfl
        have q80 : a'.tmps.getD 80 undef = Value.int IntKind.u32 ((Crc.sum (zx l m) : Nat) : Int) := inv.done 28 _ 80 rfl rfl rfl
        have q81 : a'.tmps.getD 81 undef = Value.bool true := inv.done 29 _ 81 rfl rfl rfl
        have q82 : a'.tmps.getD 82 undef = Value.bool true := inv.done 30 _ 82 rfl rfl rfl
        have q6 : a'.tmps.getD 6 undef = Value.bool true := inv.done 31 _ 6 rfl rfl rfl
        clear inv
        simp only [List.filterMap_cons, List.filterMap_nil, Par.putAll, Act.put, List.setIfInBounds_toArray, List.set_cons_succ, List.set_cons_zero, q53, q55, q58, q59, q60, q61, q62, q63, q64, q65, q66, q67, q68, q69, q70, q71, q72, q73, q74, q75, q76, q77, q78, q79, q80, q81, q82, q6]
        clear q53 q55 q58 q59 q60 q61 q62 q63 q64 q65 q66 q67 q68 q69 q70 q71 q72 q73 q74 q75 q76 q77 q78 q79 q80 q81 q82 q6
        generalize a'.tmps.getD 52 undef = u52 at *
        generalize a'.tmps.getD 54 undef = u54 at *
        generalize a'.tmps.getD 56 undef = u56 at *
        generalize a'.tmps.getD 57 undef = u57 at *
        clear a'
        go_wp2
        go_ret
        exact ⟨rfl, HE5.out.trans hX⟩
end Go.Proofs.Ytdfeblobghdfhaa
