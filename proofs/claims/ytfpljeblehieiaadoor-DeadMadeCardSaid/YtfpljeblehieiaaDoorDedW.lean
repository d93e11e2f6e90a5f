/- The dead's laws: own. -/
import Derived.Test.YtfpljeblehieiaaDoorDedV
import Derived.Test.YtfpljeblehieiaaDoorDedT
set_option linter.unusedSimpArgs false
set_option linter.unusedVariables false
namespace Go.Proofs.YtfpljeblehieiaaDoor
open Go Go.RowKit Go.Tum Go.ChangeMaps Go.Sort Go.Tum.Rn
open Go.ParB (upd Lof)
open Go.ParE (putS slotsR slots Closed)

abbrev rdO (vr : Value) (last : UInt64) (vs : Value) : Obj := .cells #[vr, vU last, vs] 32 (0, 0)
theorem infoRR : (Tryd.prog.info? 49).map (fun i => (i.zero, i.size, i.bytes)) = some (some (.agg #[.int .u64 0, .int .u64 0]), 2, 16) := by kernel_rfl
theorem infoRC : (Tryd.prog.info? 52).map (fun i => (i.zero, i.size, i.bytes)) = some (some (.agg #[.string ⟨#[]⟩, .int .u64 0]), 2, 24) := by kernel_rfl
/-- The document's list in memory. -/
structure RDD (B : Nat) (w : World) (q : Nat) (vr vs : Value) (s : PD) : Prop where
  hd : w.heap[q]? = some (rdO vr s.last vs)
  rr : w.ownsRow B 49 2 vr s.rows.length (s.rows.flatMap encR)
  ss : w.ownsRow B 52 2 vs s.seen.length (s.seen.flatMap encC)
  lo : B ≤ q
theorem RDD.ext {B : Nat} {w w' : World} {q : Nat} {vr vs : Value} {s : PD} (h : RDD B w q vr vs s) (k : Ext w w') : RDD B w' q vr vs s := ⟨k.obj h.hd, k.owns h.rr, k.owns h.ss, h.lo⟩
/-- A slice of one made, appended, stored. -/
def OwnQ (W : World) (B : Nat) (e d0 d1 N : Nat) (v : Value) (one xs : List Value) (P : World → Prop) (i : Nat) (σ : Nat → Value) (w' : World) : Prop := (i < 2 → Ext W w') ∧ match i with
  | 1 => Sl w' 2 (σ d0) 1 one
  | 2 => w'.ownsRow B e 2 (σ d1) N xs ∧ Fr (oB v) W w'
  | 3 => P w'
  | _ => True
def OwnP (w : World) (s : PD) (e : Ending) (w' : World) : Prop := (∃ q vr vs, e = .returned (pv q) ∧ RDD w.heap.size w' q vr vs s) ∧ Ext w w'
set_option maxRecDepth 100000 in
set_option maxHeartbeats 4000000 in
theorem own_any {w : World} {p mp ms : Nat} {s : PD} (h : DD w p mp ms s) (hw : WD s) (ht : TB w) :
    Calls Tryd.prog 17 #[pv p] w fun e w' => OwnP w s e w' := by
  have H := hid h
  have HW := hid hw
  have HT := hid ht
  clear h hw ht
  go_enter Tryd.func17, Tryd.ntmps17
  go_wp2_with fail
  refine (dlast_any H.out).mono ?_
  rintro e w1 ⟨rfl, rfl⟩
  have HQ := hid (heap_alloc_new w (rdO (.slice none 0 0) s.last (.slice none 0 0)))
  have HE1 := hid (Ext.alloc w (rdO (.slice none 0 0) s.last (.slice none 0 0)))
  have HSZ : Hid ((w.alloc (rdO (.slice none 0 0) s.last (.slice none 0 0))).heap.size = w.heap.size + 1) := hid (World.size_alloc _ _)
  go_wp2_with fail
  obtain ⟨q, hq⟩ : ∃ q, w.heap.size = q := ⟨_, rfl⟩
  have HQE := hid hq
  rw [hq] at HQ HSZ
  try rw [hq]
  generalize w.alloc (rdO (.slice none 0 0) s.last (.slice none 0 0)) = W1 at *
  clear hq
  have hc := dall_any (H.out.ext HE1.out)
  rw [HW.out.all] at hc
  refine hc.mono ?_
  clear hc
  rintro e w2 ⟨⟨v, rfl, ho⟩, hx⟩
  obtain ⟨ao, cap, rfl⟩ := row_shape ho
  rw [HSZ.out] at ho
  have HR := hid ho
  have HE2 := hid (HE1.out.trans hx)
  have HQ2 := hid (hx.obj HQ.out)
  clear ho hx HE1 HQ HSZ
  have HLR := hid H.out.lr
  have HL8 := hid HW.out.s8
  go_wp2
  go_loopw [15] (fun iv wr => ∃ (k : Nat) (va : Value), k ≤ s.rows.length ∧ iv = .int .i64 (k : Int) ∧ Hid (wr.heap[q]? = some (rdO va s.last (.slice none 0 0))) ∧ Hid (wr.ownsRow (q + 1) 49 2 va k ((s.rows.take k).flatMap encR)) ∧
    Hid (wr.ownsRow (q + 1) 48 2 (.slice ao s.rows.length cap) s.rows.length (s.rows.flatMap encR)) ∧ Hid (Ext w wr)) (fun iv _ => s.rows.length - (intOf iv).toNat)
  case atStart => exact ⟨0, .slice none 0 0, by omega, rfl, HQ2, hid (World.ownsRow_nil _ _ _ _), HR, HE2⟩
  case round =>
    clear HQ2 HR HE2
    obtain ⟨k, va, hk, rfl, HQ, HA, HR, HE⟩ := hrel
    by_cases hlt : k < s.rows.length
    · have hki : decide ((k : Int) < (s.rows.length : Int)) = true := by simp; omega
      obtain ⟨g, hg⟩ : ∃ g, ao = some ⟨g, 0, none⟩ := by
        rcases HR.out.2 with ⟨hv, h0⟩ | ⟨g, c, cur, hv, hb, hgg, h1, -⟩
        · omega
        · cases hv; exact ⟨g, rfl⟩
      subst hg
      have hcap : s.rows.length ≤ cap ∧ cap ≤ 9223372036854775807 := by
        rcases HR.out.2 with ⟨hv, h0⟩ | ⟨g, c, cur, hv, hb, hgg, h1, h2, -⟩
        · cases hv
        · cases hv; exact ⟨h1, by simpa [maxLen] using h2⟩
      obtain ⟨hcap1, hcap2⟩ := hcap
      have hfl : (s.rows.flatMap encR).length = s.rows.length * 2 := HR.out.1
      obtain ⟨g0, g1⟩ := flat2_get (A := fun z : UInt64 × UInt64 => vU z.1) (Bf := fun z => vU z.2) s.rows k hlt
      have r0 := World.ownsRow.cellAt HR.out (k * 2) (by omega)
      have r1 := World.ownsRow.cellAt HR.out (k * 2 + 1) (by omega)
      rw [g0] at r0
      rw [g1] at r1
      have htake : (s.rows.take (k + 1)).flatMap encR = (s.rows.take k).flatMap encR ++ encR s.rows[k] := by rw [List.take_add_one, List.getElem?_eq_getElem hlt, Option.toList_some, List.flatMap_append]; simp
      obtain ⟨z, hz⟩ : ∃ z, s.rows[k] = z := ⟨_, rfl⟩
      rw [hz] at r0 r1 htake
      obtain ⟨z1, z2⟩ := z
      have HTAKE := hid htake
      have HKL := hid hlt
      have HBX := hid (heap_alloc_new wr (.cells #[vU z1, vU z2] 48 (0, 0)))
      have hx5 := Ext.alloc wr (.cells #[vU z1, vU z2] 48 (0, 0))
      have HQ5 := hid (hx5.obj HQ.out)
      have HA5 := hid (hx5.owns HA.out)
      have HR5 := hid (hx5.owns HR.out)
      have HE5 := hid (HE.out.trans hx5)
      obtain ⟨ba, bc, rfl⟩ := row_shape HA.out
      clear g0 g1 hfl htake hz hx5 HQ HA HR HE
      go_wp2_with fail
      clear r0 r1
      obtain ⟨bx, hbx⟩ : ∃ b, wr.heap.size = b := ⟨_, rfl⟩
      try rw [hbx] at HBX
      try rw [hbx]
      clear hbx
      generalize wr.alloc (.cells #[vU z1, vU z2] 48 (0, 0)) = W5 at *
      refine ParE.wp_region_e (l := [_, _, _, _, _, _, _, _, _, _, _]) rfl (Rg.Ch [6, 7, 10] [25, 26] (OwnQ W5 (q + 1) 49 25 26 (k + 1) (.slice ba k bc) (encR (z1, z2)) ((s.rows.take k).flatMap encR ++ encR (z1, z2)) fun w' => ∃ va', w'.heap[q]? = some (rdO va' s.last (.slice none 0 0)) ∧ w'.ownsRow (q + 1) 49 2 va' (k + 1) ((s.rows.take k).flatMap encR ++ encR (z1, z2)) ∧ Fr (q :: oB (.slice ba k bc)) W5 w')) (ParC.VC [ParC.EQ (pv q), ParC.EQ (pv q), ParC.EQ (pv q), ParC.EQ (Value.pointer (some ⟨q, 0, none⟩)), ParC.EQ (Value.slice ba k bc), ParC.EQ (Value.agg #[vU z1, vU z2]), (fun _ => True), (fun _ => True), ParC.EQ (pv q), ParC.EQ (Value.pointer (some ⟨q, 0, none⟩)), fun _ => True]) (by kernel_rfl) (by kernel_rfl) (Rg.Ch.start ⟨fun _ => Ext.draw _, trivial⟩) ?_ ?_
      · refine ⟨fun L ρ w' hR hC hL hd hk => ?_, ?_⟩
        · exact Par.val_of_run rfl ⟨hR.other (by decide), hk.1⟩
        refine ⟨fun L ρ w' hR hC hL hd hk => ?_, ?_⟩
        · exact Par.val_of_run rfl ⟨hR.other (by decide), hk.1⟩
        refine ⟨fun L ρ w' hR hC hL hd hk => ?_, ?_⟩
        · obtain ⟨k0, -⟩ := hk
          have e0 : ρ (.tmp 20) = pv q := k0
          clear k0
          refine Par.val_k fun K hK => ?_
          unfold Par.val
          (go_simp; exact hK _ _ ⟨hR.other (by decide), rfl⟩)
        refine ⟨fun L ρ w' hR hC hL hd hk => ?_, ?_⟩
        · obtain ⟨k0, -⟩ := hk
          have e0 : ρ (.tmp 21) = pv q := k0
          clear k0
          refine Par.val_k fun K hK => ?_
          unfold Par.val
          (go_simp; exact hK _ _ ⟨hR.other (by decide), rfl⟩)
        refine ⟨fun L ρ w' hR hC hL hd hk => ?_, ?_⟩
        · obtain ⟨k0, -⟩ := hk
          have e0 : ρ (.tmp 22) = Value.pointer (some ⟨q, 0, none⟩) := k0
          clear k0
          refine Par.val_k fun K hK => ?_
          unfold Par.val
          (obtain ⟨i, hi, hq⟩ := hR.some 1 rfl (hC.notyet 7 4 hL (by kernel_rfl)); have cc := (lk3 ((hq.1 (by omega)).obj HQ5.out)).1; go_simp; exact hK _ _ ⟨hR.other (by decide), rfl⟩)
        refine ⟨fun L ρ w' hR hC hL hd hk => ?_, ?_⟩
        · obtain ⟨k0, -⟩ := hk
          have e0 : ρ (.tmp 5) = pv bx := k0
          clear k0
          refine Par.val_k fun K hK => ?_
          unfold Par.val
          (obtain ⟨i, hi, hq⟩ := hR.some 0 rfl (hC.notyet 6 5 hL (by kernel_rfl)); have cc := lk2 ((hq.1 (by omega)).obj HBX.out); have cc0 := cc.1; have cc1 := cc.2.1; clear cc; go_simp; exact hK _ _ ⟨hR.other (by decide), rfl⟩)
        refine ⟨fun L ρ w' hR hC hL hd hk => ?_, ?_⟩
        · obtain ⟨k0, -⟩ := hk
          have e0 : ρ (.tmp 24) = Value.agg #[vU z1, vU z2] := k0
          clear k0
          refine Par.val_k fun K hK => ?_
          unfold Par.val
          (obtain ⟨hq, hs⟩ := hR.go 0 rfl hL (.inl rfl) (by decide); have hx := hq.1 (by decide); have hsl := row_one w' 49 (z1, z2); go_simp; exact hK _ _ ⟨hs _ _ _ ⟨fun _ => hx.trans (Ext.alloc _ _), hsl⟩, trivial⟩)
        refine ⟨fun L ρ w' hR hC hL hd hk => ?_, ?_⟩
        · obtain ⟨k0, k1, -⟩ := hk
          have e0 : ρ (.tmp 23) = Value.slice ba k bc := k0
          have e1 : (fun _ => True) (ρ (.tmp 25))  := k1
          clear k0 k1
          refine Par.val_k fun K hK => ?_
          unfold Par.val
          (obtain ⟨hq, hs⟩ := hR.go 1 rfl hL (.inr ⟨6, rfl, hC.before 6 (i := 7) rfl hd (by kernel_rfl)⟩) (by decide); have hx := hq.1 (by decide); have hsl : Sl w' 2 (ρ (.tmp 25)) 1 (encR (z1, z2)) := hq.2; obtain ⟨a9, c9, w9, r1, r2, r3, r4⟩ := run_append_sl (P := Tryd.prog) (q + 1) 28 28 49 Tryd.underlying28 infoRR rfl (by decide) (hx.owns HA5.out) hsl (by intro y hy; simp at hy; rcases hy with rfl | rfl <;> rfl) (by have := HKL.out; have := HLR.out; have := HL8.out; simp [maxLen]; omega) (by have := HKL.out; have := HLR.out; have := HL8.out; omega) (by have := (Array.getElem?_eq_some_iff.1 (hx.obj HQ5.out)).1; omega); rw [← e0] at r1; exact Par.val_append r1 (hK _ _ ⟨hs _ _ _ ⟨fun h => absurd h (by decide), r2, (Ext.fr hx).trans (fr_grown r3 r4)⟩, trivial⟩))
        refine ⟨fun L ρ w' hR hC hL hd hk => ?_, ?_⟩
        · obtain ⟨k0, -⟩ := hk
          have e0 : ρ (.tmp 19) = pv q := k0
          clear k0
          refine Par.val_k fun K hK => ?_
          unfold Par.val
          (go_simp; exact hK _ _ ⟨hR.other (by decide), rfl⟩)
        refine ⟨fun L ρ w' hR hC hL hd hk => ?_, ?_⟩
        · obtain ⟨k0, -⟩ := hk
          have e0 : ρ (.tmp 27) = pv q := k0
          clear k0
          refine Par.val_k fun K hK => ?_
          unfold Par.val
          (go_simp; exact hK _ _ ⟨hR.other (by decide), rfl⟩)
        refine ⟨fun L ρ w' hR hC hL hd hk => ?_, ?_⟩
        · obtain ⟨k0, k1, -⟩ := hk
          have e0 : ρ (.tmp 28) = Value.pointer (some ⟨q, 0, none⟩) := k0
          have e1 : (fun _ => True) (ρ (.tmp 26))  := k1
          clear k0 k1
          refine Par.val_k fun K hK => ?_
          unfold Par.val
          (obtain ⟨hq, hs⟩ := hR.go 2 rfl hL (.inr ⟨7, rfl, hC.before 7 (i := 10) rfl hd (by kernel_rfl)⟩) (by decide); obtain ⟨ho, hf⟩ := hq.2; have hlo : ∀ x ∈ oB (.slice ba k bc), q + 1 ≤ x := row_lo HA5.out; have hqb := fr_at hf HQ5.out (fun hm => by have := hlo q hm; omega); obtain ⟨-, hc0⟩ := (show True ∧ w'.cell? ⟨q, 0, none⟩ = some (.slice ba k bc) from ⟨trivial, (lk3 hqb).1⟩); have ff := (lk3 hqb).2.2.2 0; have hset := block_set hqb 0 (ρ (.tmp 26)); obtain ⟨o6, c6, h6⟩ := row_shape ho; have e9 : ρ (.tmp 26) = .slice o6 (k + 1) c6 := h6; have hfs : Fr [q] w' (w'.setCell ⟨q, 0, none⟩ (ρ (.tmp 26))) := fr_setCell _ _ _ (by simp); have ho2 := ownsRow_fr ho hfs (fun x h1 h2 => by (have h3 := row_lo ho x h1; simp at h2; omega)); have hres := hid (show (∃ va', (w'.setCell ⟨q, 0, none⟩ (ρ (.tmp 26))).heap[q]? = some (rdO va' s.last (.slice none 0 0)) ∧ (w'.setCell ⟨q, 0, none⟩ (ρ (.tmp 26))).ownsRow (q + 1) 49 2 va' (k + 1) ((s.rows.take k).flatMap encR ++ encR (z1, z2)) ∧ Fr (List.cons q (oB (.slice ba k bc))) W5 (w'.setCell ⟨q, 0, none⟩ (ρ (.tmp 26)))) from ⟨_, hset, ho2, (hf.mono (by intro x hx; simp [hx])).trans (hfs.mono (by simp))⟩); clear hset hfs ho2 hqb hlo ho hf; rw [e9] at hres; go_simp; exact hK _ _ ⟨hs none _ _ ⟨fun h => absurd h (by decide), hres.out⟩, trivial⟩)
        trivial
      intro a' w' inv hR
      have q19 : a'.tmps.getD 19 undef = pv q := inv.done 0 _ 19 rfl rfl rfl
      have q20 : a'.tmps.getD 20 undef = pv q := inv.done 1 _ 20 rfl rfl rfl
      have q21 : a'.tmps.getD 21 undef = pv q := inv.done 2 _ 21 rfl rfl rfl
      have q22 : a'.tmps.getD 22 undef = Value.pointer (some ⟨q, 0, none⟩) := inv.done 3 _ 22 rfl rfl rfl
      have q23 : a'.tmps.getD 23 undef = Value.slice ba k bc := inv.done 4 _ 23 rfl rfl rfl
      have q24 : a'.tmps.getD 24 undef = Value.agg #[vU z1, vU z2] := inv.done 5 _ 24 rfl rfl rfl
      have q25 : (fun _ => True) (a'.tmps.getD 25 undef)  := inv.done 6 _ 25 rfl rfl rfl
      have q26 : (fun _ => True) (a'.tmps.getD 26 undef)  := inv.done 7 _ 26 rfl rfl rfl
      have q27 : a'.tmps.getD 27 undef = pv q := inv.done 8 _ 27 rfl rfl rfl
      have q28 : a'.tmps.getD 28 undef = Value.pointer (some ⟨q, 0, none⟩) := inv.done 9 _ 28 rfl rfl rfl
      clear inv
      simp only [List.filterMap_cons, List.filterMap_nil, Par.putAll, Act.put, List.setIfInBounds_toArray, List.set_cons_succ, List.set_cons_zero, q19, q20, q21, q22, q23, q24, q27, q28]
      clear q19 q20 q21 q22 q23 q24 q27 q28
      obtain ⟨-, va', hqq, hrr, hff⟩ := Rg.Ch.fin hR (by decide) 3 rfl; have HQ7 := hid hqq; have HA7 := hid hrr; have HF7 := hid hff; clear hqq hrr hff hR
      generalize a'.tmps.getD 25 undef = u25 at *
      generalize a'.tmps.getD 26 undef = u26 at *
      try clear a'
      have HLO : Hid (∀ x ∈ q :: oB (.slice ba k bc), q ≤ x) := hid (fun x hx => by
        rcases List.mem_cons.1 hx with e | e
        · omega
        · have := row_lo HA5.out x e; omega)
      have HE7 := hid (Below.trans HE5.out (HF7.out.below (by rw [HQE.out]; exact HLO.out) HE5.out.size))
      have HR7 := hid (ownsRow_fr HR5.out HF7.out (fun x h1 h2 => by
        rcases List.mem_cons.1 h2 with e | e
        · have := row_lo HR5.out x h1; omega
        · obtain ⟨c1, e1⟩ := row_kind HR5.out x h1
          obtain ⟨c2, e2⟩ := row_kind HA5.out x e
          rw [e1] at e2; cases e2))
      go_wp2
      go_roundw
      case rel => exact ⟨k + 1, va', by have := HKL.out; omega, by go_num, HQ7, hid (by rw [HTAKE.out]; exact HA7.out), HR7, HE7⟩
      case measure =>
        have := HKL.out
        simp [intOf]; omega
    · have hkf : decide ((k : Int) < (s.rows.length : Int)) = false := by simp; omega
      obtain rfl : k = s.rows.length := by omega
      have HAF : Hid (wr.ownsRow (q + 1) 49 2 va s.rows.length (s.rows.flatMap encR)) := hid (by have := HA.out; rw [List.take_length] at this; exact this)
      go_wp2_with fail
      refine (dcursors_any (H.out.ext HE.out) HW.out (TBx HT.out HE.out)).mono ?_
      rintro e w8 ⟨⟨v, rfl, ho⟩, hx⟩
      obtain ⟨co, cc, rfl⟩ := row_shape ho
      obtain ⟨va0, hva0⟩ : ∃ x, x = va := ⟨_, rfl⟩
      subst hva0
      have HR8 := hid (owns_mono ho (b' := q + 1) (by have := (Array.getElem?_eq_some_iff.1 HQ.out).1; omega))
      have HQ8 := hid (hx.obj HQ.out)
      have HV8 := hid (hx.owns HAF.out)
      have HE8 := hid (HE.out.trans hx)
      clear ho hx HQ HA HR HE HAF
      go_wp2
      go_loopw [33] (fun iv wr => ∃ (k : Nat) (va : Value), k ≤ s.seen.length ∧ iv = .int .i64 (k : Int) ∧ Hid (wr.heap[q]? = some (rdO va0 s.last va)) ∧ Hid (wr.ownsRow (q + 1) 52 2 va k ((s.seen.take k).flatMap encC)) ∧
        Hid (wr.ownsRow (q + 1) 51 2 (.slice co s.seen.length cc) s.seen.length (s.seen.flatMap encC)) ∧ Hid (Ext w wr) ∧ Hid (wr.ownsRow (q + 1) 49 2 va0 s.rows.length (s.rows.flatMap encR))) (fun iv _ => s.seen.length - (intOf iv).toNat)
      case atStart => exact ⟨0, .slice none 0 0, by omega, rfl, HQ8, hid (World.ownsRow_nil _ _ _ _), HR8, HE8, HV8⟩
      case round =>
        clear HQ8 HR8 HE8 HV8
        obtain ⟨k, va, hk, rfl, HQ, HA, HR, HE, HV⟩ := hrel
        by_cases hlt : k < s.seen.length
        · have hki : decide ((k : Int) < (s.seen.length : Int)) = true := by simp; omega
          obtain ⟨g, hg⟩ : ∃ g, co = some ⟨g, 0, none⟩ := by
            rcases HR.out.2 with ⟨hv, h0⟩ | ⟨g, c, cur, hv, hb, hgg, h1, -⟩
            · omega
            · cases hv; exact ⟨g, rfl⟩
          subst hg
          have hcap : s.seen.length ≤ cc ∧ cc ≤ 9223372036854775807 := by
            rcases HR.out.2 with ⟨hv, h0⟩ | ⟨g, c, cur, hv, hb, hgg, h1, h2, -⟩
            · cases hv
            · cases hv; exact ⟨h1, by simpa [maxLen] using h2⟩
          obtain ⟨hcap1, hcap2⟩ := hcap
          have hfl : (s.seen.flatMap encC).length = s.seen.length * 2 := HR.out.1
          obtain ⟨g0, g1⟩ := flat2_get (A := fun z : Cur => vN z.1) (Bf := fun z => vU z.2) s.seen k hlt
          have r0 := World.ownsRow.cellAt HR.out (k * 2) (by omega)
          have r1 := World.ownsRow.cellAt HR.out (k * 2 + 1) (by omega)
          rw [g0] at r0
          rw [g1] at r1
          have htake : (s.seen.take (k + 1)).flatMap encC = (s.seen.take k).flatMap encC ++ encC s.seen[k] := by rw [List.take_add_one, List.getElem?_eq_getElem hlt, Option.toList_some, List.flatMap_append]; simp
          obtain ⟨z, hz⟩ : ∃ z, s.seen[k] = z := ⟨_, rfl⟩
          rw [hz] at r0 r1 htake
          obtain ⟨z1, z2⟩ := z
          have HTAKE := hid htake
          have HKL := hid hlt
          have HBX := hid (heap_alloc_new wr (.cells #[vN z1, vU z2] 51 (0, 0)))
          have hx5 := Ext.alloc wr (.cells #[vN z1, vU z2] 51 (0, 0))
          have HQ5 := hid (hx5.obj HQ.out)
          have HA5 := hid (hx5.owns HA.out)
          have HR5 := hid (hx5.owns HR.out)
          have HE5 := hid (HE.out.trans hx5)
          have HV5 := hid (hx5.owns HV.out)
          obtain ⟨ba, bc, rfl⟩ := row_shape HA.out
          clear g0 g1 hfl htake hz hx5 HQ HA HR HE HV
          go_wp2_with fail
          clear r0 r1
          obtain ⟨bx, hbx⟩ : ∃ b, wr.heap.size = b := ⟨_, rfl⟩
          try rw [hbx] at HBX
          try rw [hbx]
          clear hbx
          generalize wr.alloc (.cells #[vN z1, vU z2] 51 (0, 0)) = W5 at *
          refine ParE.wp_region_e (l := [_, _, _, _, _, _, _, _, _, _, _]) rfl (Rg.Ch [6, 7, 10] [43, 44] (OwnQ W5 (q + 1) 52 43 44 (k + 1) (.slice ba k bc) (encC (z1, z2)) ((s.seen.take k).flatMap encC ++ encC (z1, z2)) fun w' => ∃ va', w'.heap[q]? = some (rdO va0 s.last va') ∧ w'.ownsRow (q + 1) 52 2 va' (k + 1) ((s.seen.take k).flatMap encC ++ encC (z1, z2)) ∧ Fr (q :: oB (.slice ba k bc)) W5 w')) (ParC.VC [ParC.EQ (pv q), ParC.EQ (pv q), ParC.EQ (pv q), ParC.EQ (Value.pointer (some ⟨q, 2, none⟩)), ParC.EQ (Value.slice ba k bc), ParC.EQ (Value.agg #[vN z1, vU z2]), (fun _ => True), (fun _ => True), ParC.EQ (pv q), ParC.EQ (Value.pointer (some ⟨q, 2, none⟩)), fun _ => True]) (by kernel_rfl) (by kernel_rfl) (Rg.Ch.start ⟨fun _ => Ext.draw _, trivial⟩) ?_ ?_
          · refine ⟨fun L ρ w' hR hC hL hd hk => ?_, ?_⟩
            · exact Par.val_of_run rfl ⟨hR.other (by decide), hk.1⟩
            refine ⟨fun L ρ w' hR hC hL hd hk => ?_, ?_⟩
            · exact Par.val_of_run rfl ⟨hR.other (by decide), hk.1⟩
            refine ⟨fun L ρ w' hR hC hL hd hk => ?_, ?_⟩
            · obtain ⟨k0, -⟩ := hk
              have e0 : ρ (.tmp 38) = pv q := k0
              clear k0
              refine Par.val_k fun K hK => ?_
              unfold Par.val
              (go_simp; exact hK _ _ ⟨hR.other (by decide), rfl⟩)
            refine ⟨fun L ρ w' hR hC hL hd hk => ?_, ?_⟩
            · obtain ⟨k0, -⟩ := hk
              have e0 : ρ (.tmp 39) = pv q := k0
              clear k0
              refine Par.val_k fun K hK => ?_
              unfold Par.val
              (go_simp; exact hK _ _ ⟨hR.other (by decide), rfl⟩)
            refine ⟨fun L ρ w' hR hC hL hd hk => ?_, ?_⟩
            · obtain ⟨k0, -⟩ := hk
              have e0 : ρ (.tmp 40) = Value.pointer (some ⟨q, 2, none⟩) := k0
              clear k0
              refine Par.val_k fun K hK => ?_
              unfold Par.val
              (obtain ⟨i, hi, hq⟩ := hR.some 1 rfl (hC.notyet 7 4 hL (by kernel_rfl)); have cc := (lk3 ((hq.1 (by omega)).obj HQ5.out)).2.2.1; go_simp; exact hK _ _ ⟨hR.other (by decide), rfl⟩)
            refine ⟨fun L ρ w' hR hC hL hd hk => ?_, ?_⟩
            · obtain ⟨k0, -⟩ := hk
              have e0 : ρ (.tmp 7) = pv bx := k0
              clear k0
              refine Par.val_k fun K hK => ?_
              unfold Par.val
              (obtain ⟨i, hi, hq⟩ := hR.some 0 rfl (hC.notyet 6 5 hL (by kernel_rfl)); have cc := lk2 ((hq.1 (by omega)).obj HBX.out); have cc0 := cc.1; have cc1 := cc.2.1; clear cc; go_simp; exact hK _ _ ⟨hR.other (by decide), rfl⟩)
            refine ⟨fun L ρ w' hR hC hL hd hk => ?_, ?_⟩
            · obtain ⟨k0, -⟩ := hk
              have e0 : ρ (.tmp 42) = Value.agg #[vN z1, vU z2] := k0
              clear k0
              refine Par.val_k fun K hK => ?_
              unfold Par.val
              (obtain ⟨hq, hs⟩ := hR.go 0 rfl hL (.inl rfl) (by decide); have hx := hq.1 (by decide); have hsl := cur_one w' 52 (z1, z2); go_simp; exact hK _ _ ⟨hs _ _ _ ⟨fun _ => hx.trans (Ext.alloc _ _), hsl⟩, trivial⟩)
            refine ⟨fun L ρ w' hR hC hL hd hk => ?_, ?_⟩
            · obtain ⟨k0, k1, -⟩ := hk
              have e0 : ρ (.tmp 41) = Value.slice ba k bc := k0
              have e1 : (fun _ => True) (ρ (.tmp 43))  := k1
              clear k0 k1
              refine Par.val_k fun K hK => ?_
              unfold Par.val
              (obtain ⟨hq, hs⟩ := hR.go 1 rfl hL (.inr ⟨6, rfl, hC.before 6 (i := 7) rfl hd (by kernel_rfl)⟩) (by decide); have hx := hq.1 (by decide); have hsl : Sl w' 2 (ρ (.tmp 43)) 1 (encC (z1, z2)) := hq.2; obtain ⟨a9, c9, w9, r1, r2, r3, r4⟩ := run_append_sl (P := Tryd.prog) (q + 1) 30 30 52 Tryd.underlying30 infoRC rfl (by decide) (hx.owns HA5.out) hsl (by intro y hy; simp at hy; rcases hy with rfl | rfl <;> rfl) (by have := HKL.out; have := HLR.out; have := HL8.out; simp [maxLen]; omega) (by have := HKL.out; have := HLR.out; have := HL8.out; omega) (by have := (Array.getElem?_eq_some_iff.1 (hx.obj HQ5.out)).1; omega); rw [← e0] at r1; exact Par.val_append r1 (hK _ _ ⟨hs _ _ _ ⟨fun h => absurd h (by decide), r2, (Ext.fr hx).trans (fr_grown r3 r4)⟩, trivial⟩))
            refine ⟨fun L ρ w' hR hC hL hd hk => ?_, ?_⟩
            · obtain ⟨k0, -⟩ := hk
              have e0 : ρ (.tmp 37) = pv q := k0
              clear k0
              refine Par.val_k fun K hK => ?_
              unfold Par.val
              (go_simp; exact hK _ _ ⟨hR.other (by decide), rfl⟩)
            refine ⟨fun L ρ w' hR hC hL hd hk => ?_, ?_⟩
            · obtain ⟨k0, -⟩ := hk
              have e0 : ρ (.tmp 45) = pv q := k0
              clear k0
              refine Par.val_k fun K hK => ?_
              unfold Par.val
              (go_simp; exact hK _ _ ⟨hR.other (by decide), rfl⟩)
            refine ⟨fun L ρ w' hR hC hL hd hk => ?_, ?_⟩
            · obtain ⟨k0, k1, -⟩ := hk
              have e0 : ρ (.tmp 46) = Value.pointer (some ⟨q, 2, none⟩) := k0
              have e1 : (fun _ => True) (ρ (.tmp 44))  := k1
              clear k0 k1
              refine Par.val_k fun K hK => ?_
              unfold Par.val
              (obtain ⟨hq, hs⟩ := hR.go 2 rfl hL (.inr ⟨7, rfl, hC.before 7 (i := 10) rfl hd (by kernel_rfl)⟩) (by decide); obtain ⟨ho, hf⟩ := hq.2; have hlo : ∀ x ∈ oB (.slice ba k bc), q + 1 ≤ x := row_lo HA5.out; have hqb := fr_at hf HQ5.out (fun hm => by have := hlo q hm; omega); obtain ⟨-, hc0⟩ := (show True ∧ w'.cell? ⟨q, 2, none⟩ = some (.slice ba k bc) from ⟨trivial, (lk3 hqb).2.2.1⟩); have ff := (lk3 hqb).2.2.2 2; have hset := block_set hqb 2 (ρ (.tmp 44)); obtain ⟨o6, c6, h6⟩ := row_shape ho; have e9 : ρ (.tmp 44) = .slice o6 (k + 1) c6 := h6; have hfs : Fr [q] w' (w'.setCell ⟨q, 2, none⟩ (ρ (.tmp 44))) := fr_setCell _ _ _ (by simp); have ho2 := ownsRow_fr ho hfs (fun x h1 h2 => by (have h3 := row_lo ho x h1; simp at h2; omega)); have hres := hid (show (∃ va', (w'.setCell ⟨q, 2, none⟩ (ρ (.tmp 44))).heap[q]? = some (rdO va0 s.last va') ∧ (w'.setCell ⟨q, 2, none⟩ (ρ (.tmp 44))).ownsRow (q + 1) 52 2 va' (k + 1) ((s.seen.take k).flatMap encC ++ encC (z1, z2)) ∧ Fr (List.cons q (oB (.slice ba k bc))) W5 (w'.setCell ⟨q, 2, none⟩ (ρ (.tmp 44)))) from ⟨_, hset, ho2, (hf.mono (by intro x hx; simp [hx])).trans (hfs.mono (by simp))⟩); clear hset hfs ho2 hqb hlo ho hf; rw [e9] at hres; go_simp; exact hK _ _ ⟨hs none _ _ ⟨fun h => absurd h (by decide), hres.out⟩, trivial⟩)
            trivial
          intro a' w' inv hR
          have q37 : a'.tmps.getD 37 undef = pv q := inv.done 0 _ 37 rfl rfl rfl
          have q38 : a'.tmps.getD 38 undef = pv q := inv.done 1 _ 38 rfl rfl rfl
          have q39 : a'.tmps.getD 39 undef = pv q := inv.done 2 _ 39 rfl rfl rfl
          have q40 : a'.tmps.getD 40 undef = Value.pointer (some ⟨q, 2, none⟩) := inv.done 3 _ 40 rfl rfl rfl
          have q41 : a'.tmps.getD 41 undef = Value.slice ba k bc := inv.done 4 _ 41 rfl rfl rfl
          have q42 : a'.tmps.getD 42 undef = Value.agg #[vN z1, vU z2] := inv.done 5 _ 42 rfl rfl rfl
          have q43 : (fun _ => True) (a'.tmps.getD 43 undef)  := inv.done 6 _ 43 rfl rfl rfl
          have q44 : (fun _ => True) (a'.tmps.getD 44 undef)  := inv.done 7 _ 44 rfl rfl rfl
          have q45 : a'.tmps.getD 45 undef = pv q := inv.done 8 _ 45 rfl rfl rfl
          have q46 : a'.tmps.getD 46 undef = Value.pointer (some ⟨q, 2, none⟩) := inv.done 9 _ 46 rfl rfl rfl
          clear inv
          simp only [List.filterMap_cons, List.filterMap_nil, Par.putAll, Act.put, List.setIfInBounds_toArray, List.set_cons_succ, List.set_cons_zero, q37, q38, q39, q40, q41, q42, q45, q46]
          clear q37 q38 q39 q40 q41 q42 q45 q46
          obtain ⟨-, va', hqq, hrr, hff⟩ := Rg.Ch.fin hR (by decide) 3 rfl; have HQ7 := hid hqq; have HA7 := hid hrr; have HF7 := hid hff; clear hqq hrr hff hR
          generalize a'.tmps.getD 43 undef = u43 at *
          generalize a'.tmps.getD 44 undef = u44 at *
          try clear a'
          have HLO : Hid (∀ x ∈ q :: oB (.slice ba k bc), q ≤ x) := hid (fun x hx => by
            rcases List.mem_cons.1 hx with e | e
            · omega
            · have := row_lo HA5.out x e; omega)
          have HE7 := hid (Below.trans HE5.out (HF7.out.below (by rw [HQE.out]; exact HLO.out) HE5.out.size))
          have HR7 := hid (ownsRow_fr HR5.out HF7.out (fun x h1 h2 => by
            rcases List.mem_cons.1 h2 with e | e
            · have := row_lo HR5.out x h1; omega
            · obtain ⟨c1, e1⟩ := row_kind HR5.out x h1
              obtain ⟨c2, e2⟩ := row_kind HA5.out x e
              rw [e1] at e2; cases e2))
          have HV7 := hid (ownsRow_fr HV5.out HF7.out (fun x h1 h2 => by
            rcases List.mem_cons.1 h2 with e | e
            · have := row_lo HV5.out x h1; omega
            · obtain ⟨c1, e1⟩ := row_kind HV5.out x h1
              obtain ⟨c2, e2⟩ := row_kind HA5.out x e
              rw [e1] at e2; cases e2))
          go_wp2
          go_roundw
          case rel => exact ⟨k + 1, va', by have := HKL.out; omega, by go_num, HQ7, hid (by rw [HTAKE.out]; exact HA7.out), HR7, HE7, HV7⟩
          case measure =>
            have := HKL.out
            simp [intOf]; omega
        · have hkf : decide ((k : Int) < (s.seen.length : Int)) = false := by simp; omega
          obtain rfl : k = s.seen.length := by omega
          have HAF : Hid (wr.ownsRow (q + 1) 52 2 va s.seen.length (s.seen.flatMap encC)) := hid (by have := HA.out; rw [List.take_length] at this; exact this)
          go_wp2
          go_returns
          exact ⟨⟨q, va0, va, rfl, ⟨HQ.out, owns_mono HV.out (by have := HQE.out; omega), owns_mono HAF.out (by have := HQE.out; omega), by have := HQE.out; omega⟩⟩, HE.out⟩
end Go.Proofs.YtfpljeblehieiaaDoor
