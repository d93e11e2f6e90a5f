/- The document's Only: the numbers of a kind, sorted. -/
import Derived.Test.YtekjflndblgegaaDoorNamV
import Derived.Test.YtekjflndblgegaaDoorParF
set_option linter.unusedSimpArgs false
set_option linter.unusedVariables false
namespace Go.Proofs.YtekjflndblgegaaDoor
open Go Go.RowKit Go.Tum Go.ChangeMaps Go.Sort Go.Nam
open Go.ParB (upd Lof)
open Go.ParE (putS slotsR slots Closed)

theorem v1_at {w : World} {g e : Nat} {x : UInt64} (h : w.heap[g]? = some (.cells #[uv x] e (0, 0))) : Vec uv w (.slice (some ⟨g, 0, none⟩) 1 1) [x] := by
  refine ⟨rfl, some ⟨g, 0, none⟩, 1, rfl, Nat.le_refl _, by simp [maxLen], (fun h => by cases h), fun a ha j u hu => ?_⟩
  cases ha
  have e1 : (⟨g, 0, none⟩ : Addr).add j = ⟨g, j, none⟩ := by unfold Addr.add; split <;> simp_all
  rw [e1, cell_of_row _ _ _ _ _ _ h]
  simpa using hu
theorem owv_mono14 {w : World} {b b' e : Nat} {v : Value} {l : List UInt64} (h : OwV uv w b e v l) (hb : b' ≤ b) : OwV uv w b' e v l := h.mono hb
set_option maxRecDepth 100000 in
set_option maxHeartbeats 4000000 in
theorem ronly_any (v : Value) (l : List Nm) (kind : UInt8) (w : World) (hv : Vec vN w v l) (hl : ∀ s ∈ l, s.length ≤ 1048576) (hn : l.length ≤ 1000) :
    Calls Tryd.prog 14 #[v, u8V kind] w fun e w' => (∃ u, e = .returned u ∧ OwV uv w' w.heap.size 22 u ((numsL kind l).mergeSort leU)) ∧ Ext w w' := by
  obtain ⟨ao, cap, rfl, hle, hm, hnn, hcell⟩ := hv.open
  have HC := hid hcell
  have HNN := hid hnn
  have HL := hid hl
  have HN := hid hn
  have HB0 : Hid (OwV uv (w.alloc (.cells #[] 22)) w.heap.size 22 (.slice (some ⟨w.heap.size, 0, none⟩) 0 0) []) := hid (emp_own14 (heap_alloc_new w _) (Nat.le_refl _))
  have HE0 : Hid (Ext w (w.alloc (.cells #[] 22))) := hid (Ext.alloc _ _)
  obtain ⟨B, hB⟩ : ∃ B, w.heap.size = B := ⟨_, rfl⟩
  rw [hB] at HB0
  rw [hB]
  have HB := hid hB
  clear hv hl hcell hnn
  go_enter Tryd.func14, Tryd.ntmps14
  go_wp2_with fail
  try rw [hB]
  clear hB
  generalize w.alloc (.cells #[] 22) = w0 at *
  go_loopw [5, 6] (fun ov iv wr => ∃ (i N : Nat) (oo : Option Addr) (oc : Nat), i ≤ l.length ∧ N ≤ i ∧ iv = .int .i64 (i : Int) ∧ ov = .slice oo N oc ∧ Hid (((numsL kind (l.take i)).mergeSort leU).length = N) ∧ Hid (OwV uv wr B 22 (.slice oo N oc) ((numsL kind (l.take i)).mergeSort leU)) ∧ Hid (Ext w wr)) (fun _ iv _ => l.length - (intOf iv).toNat)
  case atStart => exact ⟨0, 0, some ⟨B, 0, none⟩, 0, by omega, by omega, rfl, rfl, hid (by rw [List.length_mergeSort]; rfl), hid (by simpa [numsL] using HB0.out), HE0⟩
  case round =>
    clear HB0 HE0
    obtain ⟨i, N, oo, oc, hi, hNi, rfl, rfl, HLN, HO, HE⟩ := hrel
    by_cases hlt : i < l.length
    · have hij : decide ((i : Int) < (l.length : Int)) = true := by simp; omega
      obtain ⟨a, rfl⟩ := HNN.out (by omega)
      have c0 := HE.out.cell (HC.out a rfl i hlt)
      have hsl := HL.out l[i] (List.getElem_mem hlt)
      have hsu := numsL_succ kind hlt
      obtain ⟨s, hs⟩ : ∃ s, l[i] = s := ⟨_, rfl⟩
      rw [hs] at c0 hsl hsu
      have HSL := hid hsl
      have HSU := hid hsu
      have HLT := hid hlt
      have hwi : IntKind.i64.wrap ((i : Int) + 1) = ((i + 1 : Nat) : Int) := i64v _ (by omega) (by omega)
      clear hs hsl hsu
      go_wp2_with fail
      cases hr : readL s with
      | none =>
        have HV := hid (readV_none hr)
        have HTK : Hid (numsL kind (l.take (i + 1)) = numsL kind (l.take i)) := hid (by rw [HSU.out]; unfold ofKind; rw [hr]; simp)
        clear hr
        have hc := rread_any s wr HSL.out
        rw [HV.out] at hc
        refine hc.mono ?_
        clear hc
        rintro e w2 ⟨rfl, hx⟩
        have HE2 := hid (HE.out.trans hx)
        have HO2 := hid (HO.out.ext hx)
        clear hx
        go_wp2
        go_roundw
        case rel => exact ⟨i + 1, N, oo, oc, by have := HLT.out; omega, by omega, by first | rfl | go_num, rfl, hid (by rw [HTK.out]; exact HLN.out), hid (by rw [HTK.out]; exact HO2.out), HE2⟩
        case measure => have := HLT.out; simp [intOf]; omega
      | some q =>
        obtain ⟨k, n⟩ := q
        have HV := hid (readV_some hr)
        have HLT64 := hid (read_lt hr)
        by_cases hk : k = kind
        · have hkb : ((k.toNat : Int) == (kind.toNat : Int)) = true := by simp [hk]
          have HTK : Hid (numsL kind (l.take (i + 1)) = numsL kind (l.take i) ++ [UInt64.ofNat n]) := hid (by rw [HSU.out]; unfold ofKind; rw [hr]; simp [hk])
          clear hr hk
          have hc := rread_any s wr HSL.out
          rw [HV.out] at hc
          refine hc.mono ?_
          clear hc
          rintro e w2 ⟨rfl, hx⟩
          have HE2 := hid (HE.out.trans hx)
          have HO2 := hid (HO.out.ext hx)
          clear hx HO HE
          obtain ⟨x, hxn⟩ : ∃ x, UInt64.ofNat n = x := ⟨_, rfl⟩
          rw [hxn] at HTK
          have hnx : (n : Int) = (x.toNat : Int) := by rw [← hxn, HLT64.out]
          rw [hnx]
          clear hnx hxn HLT64
          obtain ⟨L, hL⟩ : ∃ L, (numsL kind (l.take i)).mergeSort leU = L := ⟨_, rfl⟩
          rw [hL] at HLN HO2
          have HLL := hid hL
          clear hL
          go_upto_block 2 with fail
          go_cut [10] from 12 to 58 (fun jv wx => ∃ at' : Nat, at' ≤ N ∧ jv = .int .i64 (at' : Int) ∧ wx = w2 ∧ Hid (∀ j (h : j < L.length), j < at' → L[j] ≤ x) ∧ Hid (∀ h : at' < L.length, x ≤ L[at']))
          case first =>
            go_wp2_with fail
            go_loopw [10] (fun jv wx => ∃ at' : Nat, at' ≤ N ∧ jv = .int .i64 (at' : Int) ∧ wx = w2 ∧ Hid (∀ j (h : j < L.length), j < at' → L[j] ≤ x)) (fun jv _ => N - (intOf jv).toNat)
            case atStart => exact ⟨0, by omega, rfl, rfl, hid (fun j h h2 => absurd h2 (by omega))⟩
            case round =>
              obtain ⟨at', hat, rfl, rfl, HA⟩ := hrel
              rcases Nat.lt_or_ge at' N with haN | haN
              · obtain ⟨g, rfl⟩ := HO2.out.addr (by omega)
                have hatL : at' < L.length := by rw [HLN.out]; exact haN
                have cc := HO2.out.cell at' hatL
                obtain ⟨y, hy⟩ : ∃ y, L[at'] = y := ⟨_, rfl⟩
                rw [hy] at cc
                have HY := hid hy
                have haN2 : (at' : Int) < N := by omega
                have hwa : IntKind.i64.wrap ((at' : Int) + 1) = ((at' + 1 : Nat) : Int) := i64v _ (by omega) (by have := HN.out; omega)
                have HAN := hid haN
                clear hy
                by_cases hyx : y.toNat ≤ x.toNat
                · have hdy : decide ((y.toNat : Int) ≤ (x.toNat : Int)) = true := by simp; omega
                  have HA2 : Hid (∀ j (h : j < L.length), j < at' + 1 → L[j] ≤ x) := hid (fun j h h2 => by
                    rcases Nat.lt_or_eq_of_le (Nat.le_of_lt_succ h2) with h3 | h3
                    · exact HA.out j h h3
                    · subst h3; rw [HY.out, UInt64.le_iff_toNat_le]; exact hyx)
                  go_wp2
                  go_roundw
                  case rel => exact ⟨at' + 1, HAN.out, by first | rfl | go_num, by first | rfl | trivial, HA2⟩
                  case measure => have := HAN.out; simp [intOf]; omega
                · have hdy : decide ((y.toNat : Int) ≤ (x.toNat : Int)) = false := by simp; omega
                  have hdy2 : (y.toNat ≤ x.toNat) = False := by simp; omega
                  have HA2 : Hid (∀ h : at' < L.length, x ≤ L[at']) := hid (fun h => by rw [HY.out, UInt64.le_iff_toNat_le]; omega)
                  clear hyx
                  go_wp2
                  go_meet
                  case rel => exact ⟨at', hat, rfl, rfl, HA, HA2⟩
              · have hnl : (at' < N) = False := by simp; omega
                have HA2 : Hid (∀ h : at' < L.length, x ≤ L[at']) := hid (fun h => by have := HLN.out; omega)
                go_wp2
                go_meet
                case rel => exact ⟨at', hat, rfl, rfl, HA, HA2⟩
          case rest =>
            obtain ⟨at', hat, rfl, rfl, HA, HA2⟩ := hcut
            obtain ⟨A, hA⟩ : ∃ A, L.take at' = A := ⟨_, rfl⟩
            obtain ⟨C, hCC⟩ : ∃ C, L.drop at' = C := ⟨_, rfl⟩
            have hop := HO2.out.vec.opens
            have hoc : N ≤ oc ∧ oc ≤ 9223372036854775807 := ⟨hop.2.1, hop.2.2.1⟩
            have HSA : Hid (Vec uv wc (.slice oo at' oc) A) := hid (by rw [← hA]; exact vec_take HO2.out.vec HLN.out at' hat)
            have HSC : Hid (∀ (ao' : Option Addr) (kk c : Nat), (ao' = if oc = at' then oo else oo.map (·.add at')) → kk = N - at' → c = oc - at' → Vec uv wc (.slice ao' kk c) C) := hid (fun ao' kk c e1 e2 e3 => by rw [← hCC]; exact vec_drop HO2.out.vec HLN.out at' hat ao' e1 kk c e2 e3)
            have HAL : Hid (A.length = at') := hid (by rw [← hA, List.length_take, HLN.out]; omega)
            have HCL : Hid (C.length = N - at') := hid (by rw [← hCC, List.length_drop, HLN.out])
            have HNb : Hid (at' ≤ N ∧ N ≤ 1000) := hid ⟨hat, by have := HN.out; omega⟩
            have HNEW : Hid ((numsL kind (l.take (i + 1))).mergeSort leU = A ++ [x] ++ C) := hid (by
              have h := ins_sorted (numsL kind (l.take i)) x at' (by rw [HLL.out, HLN.out]; exact hat) (by simp only [HLL.out]; exact HA.out) (by simp only [HLL.out]; exact HA2.out)
              rw [HTK.out, ← h, HLL.out, hA, hCC, List.append_assoc])
            have hatc : at' ≤ oc := by omega
            clear hop hA hCC HA HA2
            go_wp2_with fail
            refine ParF.wp_region_f (l := [_, _, _, _, _, _, _, _, _, _, _, _, _]) rfl [(1, 5), (8, 5)] (fun L σ w9 => Rg.Mx wc 13 [(0, 47, 4), (4, 51, 7), (6, 53, 7), (7, 54, 11), (11, 58, 12), (12, 5, 13)] (InQ wc x A C) (fun _ => True) L σ w9 ∧ L 13 = false) (ParC.VC [(fun _ => True), ParC.EQ (Value.slice oo N oc), ParC.EQ (Value.int IntKind.i64 (at' : Int)), (fun v => Vec uv wc v A), (fun _ => True), ParC.EQ (uv x), (fun _ => True), (fun _ => True), ParC.EQ (Value.slice oo N oc), ParC.EQ (Value.int IntKind.i64 (at' : Int)), (fun v => Vec uv wc v C), (fun _ => True), (fun _ => True)]) (by kernel_rfl) (by kernel_rfl) (⟨Rg.Mx.start InQ.st, rfl⟩) ?_ ?_
            · refine ⟨fun L ρ w' hR hC hL hd hk => ?_, ?_⟩
              · obtain ⟨-⟩ := hk
                skip
                refine Par.val_k fun K hK => ?_
                unfold Par.val
                (have hx := hR.1.a hR.2; go_simp; exact hK _ _ ⟨⟨hR.1.grow hR.2 (by decide) (Ext.alloc _ _) ⟨w'.heap.size, rfl, heap_alloc_new w' _, hx.size⟩, by rw [Rg.updN (by decide)]; exact hR.2⟩, trivial⟩)
              refine ⟨fun L ρ w' hR hC hL hd hk => ?_, ?_⟩
              · exact Par.val_of_run rfl ⟨⟨hR.1.other (by decide), by rw [Rg.updN (by decide)]; exact hR.2⟩, hk.1⟩
              refine ⟨fun L ρ w' hR hC hL hd hk => ?_, ?_⟩
              · exact Par.val_of_run rfl ⟨⟨hR.1.other (by decide), by rw [Rg.updN (by decide)]; exact hR.2⟩, hk.1⟩
              refine ⟨fun L ρ w' hR hC hL hd hk => ?_, ?_⟩
              · obtain ⟨k0, k1, -⟩ := hk
                have e0 : ρ (.tmp 48) = Value.slice oo N oc := k0
                have e1 : ρ (.tmp 49) = Value.int IntKind.i64 (at' : Int) := k1
                clear k0 k1
                refine Par.val_k fun K hK => ?_
                unfold Par.val
                (go_simp; exact hK _ _ ⟨⟨hR.1.other (by decide), by rw [Rg.updN (by decide)]; exact hR.2⟩, HSA.out⟩)
              refine ⟨fun L ρ w' hR hC hL hd hk => ?_, ?_⟩
              · obtain ⟨k0, k1, -⟩ := hk
                have e0 : (fun _ => True) (ρ (.tmp 47))  := k0
                have e1 : (fun v => Vec uv wc v A) (ρ (.tmp 50))  := k1
                clear k0 k1
                refine Par.val_k fun K hK => ?_
                unfold Par.val
                (have hx := hR.1.a hR.2; obtain ⟨g, eg, hg, hgl⟩ : InQ wc x A C 47 (ρ (.tmp 47)) w' := hR.1.get 0 47 4 (by decide) (hC.before 0 (i := 4) rfl hd (by kernel_rfl)) hL; obtain ⟨a9, c9, w9, r1, r2, r3, r4⟩ := run_append_vec (P := Tryd.prog) uv_one wc.heap.size 32 32 22 Tryd.underlying32 infoU64 rfl (l1 := []) (emp_own14 hg hgl) (e1.ext hx) (by have := HAL.out; have := HCL.out; have := HNb.out; simp; omega) (by have := HAL.out; have := HCL.out; have := HNb.out; simp; omega) hx.size; rw [← eg] at r1; have hfr := fr_grown r3 r4; exact Par.val_append r1 (hK _ _ ⟨⟨hR.1.app [] [7, 11, 12] [(6, 53, 7)] hR.2 (by simp) (by simp; exact ⟨hC.notyet 7 4 hL (by kernel_rfl), hC.notyet 11 4 hL (by kernel_rfl), hC.notyet 12 4 hL (by kernel_rfl)⟩) (by decide) (by intro y hy; simp at hy; subst hy; rintro ⟨g2, eg2, hg2⟩; refine ⟨g2, eg2, fr_at14 hfr hg2 (fun hm => ?_)⟩; simp [oB, Value.ownBlock] at hm; subst hm; rw [hg] at hg2; cases hg2) (Below.trans hx r4) (by show OwV _ _ _ _ _ _; unfold OwV at r2 ⊢; simpa using r2), by rw [Rg.updN (by decide)]; exact hR.2⟩, trivial⟩))
              refine ⟨fun L ρ w' hR hC hL hd hk => ?_, ?_⟩
              · exact Par.val_of_run rfl ⟨⟨hR.1.other (by decide), by rw [Rg.updN (by decide)]; exact hR.2⟩, hk.1⟩
              refine ⟨fun L ρ w' hR hC hL hd hk => ?_, ?_⟩
              · obtain ⟨k0, -⟩ := hk
                have e0 : ρ (.tmp 52) = uv x := k0
                clear k0
                refine Par.val_k fun K hK => ?_
                unfold Par.val
                (have hx := hR.1.a hR.2; go_simp; exact hK _ _ ⟨⟨hR.1.grow hR.2 (by decide) (Ext.alloc _ _) ⟨w'.heap.size, rfl, heap_alloc_new w' _⟩, by rw [Rg.updN (by decide)]; exact hR.2⟩, trivial⟩)
              refine ⟨fun L ρ w' hR hC hL hd hk => ?_, ?_⟩
              · obtain ⟨k0, k1, -⟩ := hk
                have e0 : (fun _ => True) (ρ (.tmp 51))  := k0
                have e1 : (fun _ => True) (ρ (.tmp 53))  := k1
                clear k0 k1
                refine Par.val_k fun K hK => ?_
                unfold Par.val
                (have hx := hR.1.a hR.2; have h51 : InQ wc x A C 51 (ρ (.tmp 51)) w' := hR.1.get 4 51 7 (by decide) (hC.before 4 (i := 7) rfl hd (by kernel_rfl)) hL; obtain ⟨g, eg, hg⟩ : InQ wc x A C 53 (ρ (.tmp 53)) w' := hR.1.get 6 53 7 (by decide) (hC.before 6 (i := 7) rfl hd (by kernel_rfl)) hL; obtain ⟨a9, c9, w9, r1, r2, r3, r4⟩ := run_append_vec (P := Tryd.prog) uv_one wc.heap.size 32 32 22 Tryd.underlying32 infoU64 rfl h51 (v1_at hg) (by have := HAL.out; have := HCL.out; have := HNb.out; simp; omega) (by have := HAL.out; have := HCL.out; have := HNb.out; simp; omega) hx.size; rw [← eg] at r1; have hfr := fr_grown r3 r4; exact Par.val_append r1 (hK _ _ ⟨⟨hR.1.app [4] [11, 12] [] hR.2 (by simp; exact hC.before 4 (i := 7) rfl hd (by kernel_rfl)) (by simp; exact ⟨hC.notyet 11 7 hL (by kernel_rfl), hC.notyet 12 7 hL (by kernel_rfl)⟩) (by decide) (by simp) (Below.trans hx r4) (by show OwV _ _ _ _ _ _; unfold OwV at r2 ⊢; simpa using r2), by rw [Rg.updN (by decide)]; exact hR.2⟩, trivial⟩))
              refine ⟨fun L ρ w' hR hC hL hd hk => ?_, ?_⟩
              · exact Par.val_of_run rfl ⟨⟨hR.1.other (by decide), by rw [Rg.updN (by decide)]; exact hR.2⟩, hk.1⟩
              refine ⟨fun L ρ w' hR hC hL hd hk => ?_, ?_⟩
              · exact Par.val_of_run rfl ⟨⟨hR.1.other (by decide), by rw [Rg.updN (by decide)]; exact hR.2⟩, hk.1⟩
              refine ⟨fun L ρ w' hR hC hL hd hk => ?_, ?_⟩
              · obtain ⟨k0, k1, -⟩ := hk
                have e0 : ρ (.tmp 55) = Value.slice oo N oc := k0
                have e1 : ρ (.tmp 56) = Value.int IntKind.i64 (at' : Int) := k1
                clear k0 k1
                refine Par.val_k fun K hK => ?_
                unfold Par.val
                (go_simp; exact hK _ _ ⟨⟨hR.1.other (by decide), by rw [Rg.updN (by decide)]; exact hR.2⟩, HSC.out _ _ _ (by first | rfl | (rw [if_neg (by omega)]; rfl) | simp) (by omega) (by omega)⟩)
              refine ⟨fun L ρ w' hR hC hL hd hk => ?_, ?_⟩
              · obtain ⟨k0, k1, -⟩ := hk
                have e0 : (fun _ => True) (ρ (.tmp 54))  := k0
                have e1 : (fun v => Vec uv wc v C) (ρ (.tmp 57))  := k1
                clear k0 k1
                refine Par.val_k fun K hK => ?_
                unfold Par.val
                (have hx := hR.1.a hR.2; have h54 : InQ wc x A C 54 (ρ (.tmp 54)) w' := hR.1.get 7 54 11 (by decide) (hC.before 7 (i := 11) rfl hd (by kernel_rfl)) hL; obtain ⟨a9, c9, w9, r1, r2, r3, r4⟩ := run_append_vec (P := Tryd.prog) uv_one wc.heap.size 32 32 22 Tryd.underlying32 infoU64 rfl h54 (e1.ext hx) (by have := HAL.out; have := HCL.out; have := HNb.out; simp; omega) (by have := HAL.out; have := HCL.out; have := HNb.out; simp; omega) hx.size; have hfr := fr_grown r3 r4; exact Par.val_append r1 (hK _ _ ⟨⟨hR.1.app [4, 7] [12] [] hR.2 (by simp; exact ⟨hC.before 4 (i := 11) rfl hd (by kernel_rfl), hC.before 7 (i := 11) rfl hd (by kernel_rfl)⟩) (by simp; exact hC.notyet 12 11 hL (by kernel_rfl)) (by decide) (by simp) (Below.trans hx r4) (by show OwV _ _ _ _ _ _; unfold OwV at r2 ⊢; simpa [Nat.add_assoc] using r2), by rw [Rg.updN (by decide)]; exact hR.2⟩, trivial⟩))
              refine ⟨fun L ρ w' hR hC hL hd hk => ?_, ?_⟩
              · obtain ⟨k0, -⟩ := hk
                have e0 : (fun _ => True) (ρ (.tmp 58))  := k0
                clear k0
                refine Par.val_k fun K hK => ?_
                unfold Par.val
                (have hx := hR.1.a hR.2; have h58 : InQ wc x A C 58 (ρ (.tmp 58)) w' := hR.1.get 11 58 12 (by decide) (hC.before 11 (i := 12) rfl hd (by kernel_rfl)) hL; go_simp; exact hK _ _ ⟨⟨hR.1.grow hR.2 (by decide) (Ext.refl _) ⟨h58, hx⟩, by rw [Rg.updN (by decide)]; exact hR.2⟩, trivial⟩)
              trivial
            intro a' w' inv hR
            have q47 : (fun _ => True) (a'.tmps.getD 47 undef)  := inv.done 0 _ 47 rfl rfl rfl
            have q48 : a'.tmps.getD 48 undef = Value.slice oo N oc := inv.done 1 _ 48 rfl rfl rfl
            have q49 : a'.tmps.getD 49 undef = Value.int IntKind.i64 (at' : Int) := inv.done 2 _ 49 rfl rfl rfl
            have q50 : (fun v => Vec uv wc v A) (a'.tmps.getD 50 undef)  := inv.done 3 _ 50 rfl rfl rfl
            have q51 : (fun _ => True) (a'.tmps.getD 51 undef)  := inv.done 4 _ 51 rfl rfl rfl
            have q52 : a'.tmps.getD 52 undef = uv x := inv.done 5 _ 52 rfl rfl rfl
            have q53 : (fun _ => True) (a'.tmps.getD 53 undef)  := inv.done 6 _ 53 rfl rfl rfl
            have q54 : (fun _ => True) (a'.tmps.getD 54 undef)  := inv.done 7 _ 54 rfl rfl rfl
            have q55 : a'.tmps.getD 55 undef = Value.slice oo N oc := inv.done 8 _ 55 rfl rfl rfl
            have q56 : a'.tmps.getD 56 undef = Value.int IntKind.i64 (at' : Int) := inv.done 9 _ 56 rfl rfl rfl
            have q57 : (fun v => Vec uv wc v C) (a'.tmps.getD 57 undef)  := inv.done 10 _ 57 rfl rfl rfl
            have q58 : (fun _ => True) (a'.tmps.getD 58 undef)  := inv.done 11 _ 58 rfl rfl rfl
            have q5 : (fun _ => True) (a'.tmps.getD 5 undef)  := inv.done 12 _ 5 rfl rfl rfl
            clear inv
            simp only [List.filterMap_cons, List.filterMap_nil, Par.putAll, Act.put, List.setIfInBounds_toArray, List.set_cons_succ, List.set_cons_zero, q48, q49, q52, q55, q56]
            clear q48 q49 q52 q55 q56
            have h5 : InQ wc x A C 5 (a'.tmps.getD 5 undef) w' := hR.1.b (12, 5, 13) (by decide) rfl hR.2; have H5 := hid h5; clear h5 hR
            generalize a'.tmps.getD 47 undef = u47 at *
            generalize a'.tmps.getD 50 undef = u50 at *
            generalize a'.tmps.getD 51 undef = u51 at *
            generalize a'.tmps.getD 53 undef = u53 at *
            generalize a'.tmps.getD 54 undef = u54 at *
            generalize a'.tmps.getD 57 undef = u57 at *
            generalize a'.tmps.getD 58 undef = u58 at *
            generalize a'.tmps.getD 5 undef = u5 at *
            try clear a'
            obtain ⟨h51, h52⟩ := H5.out
            obtain ⟨o6, c6, e6⟩ := h51.shape
            have hlen : (A ++ [x] ++ C).length = N + 1 := by have := HAL.out; have := HCL.out; have := HNb.out; simp; omega
            rw [hlen] at e6
            subst e6
            have HO6 := hid h51
            have HE6 := hid (HE2.out.trans h52)
            have HLEN := hid hlen
            clear h51 h52 hlen H5
            go_wp2
            go_roundw
            case rel => exact ⟨i + 1, N + 1, o6, c6, by have := HLT.out; omega, by omega, by first | rfl | go_num, rfl, hid (by rw [HNEW.out]; exact HLEN.out), hid (by rw [HNEW.out]; exact owv_mono14 HO6.out (by rw [← HB.out]; exact HE2.out.size)), HE6⟩
            case measure => have := HLT.out; simp [intOf]; omega
        · have hkb : ((k.toNat : Int) == (kind.toNat : Int)) = false := by
            rw [beq_eq_false_iff_ne]
            intro e
            exact hk (UInt8.toNat_inj.1 (by omega))
          have HTK : Hid (numsL kind (l.take (i + 1)) = numsL kind (l.take i)) := hid (by rw [HSU.out]; unfold ofKind; rw [hr]; simp [hk])
          clear hr hk
          have hc := rread_any s wr HSL.out
          rw [HV.out] at hc
          refine hc.mono ?_
          clear hc
          rintro e w2 ⟨rfl, hx⟩
          have HE2 := hid (HE.out.trans hx)
          have HO2 := hid (HO.out.ext hx)
          clear hx
          go_wp2
          go_roundw
          case rel => exact ⟨i + 1, N, oo, oc, by have := HLT.out; omega, by omega, by first | rfl | go_num, rfl, hid (by rw [HTK.out]; exact HLN.out), hid (by rw [HTK.out]; exact HO2.out), HE2⟩
          case measure => have := HLT.out; simp [intOf]; omega
    · have hif : decide ((i : Int) < (l.length : Int)) = false := by simp; omega
      have hif2 : (i < l.length) = False := by simp; omega
      have HOF := hid (HO.out)
      have HIL : Hid (l.take i = l) := hid (List.take_of_length_le (by omega))
      go_wp2
      go_returns
      exact ⟨⟨_, rfl, by have := HOF.out; rw [HIL.out] at this; exact this⟩, HE.out⟩
end Go.Proofs.YtekjflndblgegaaDoor
