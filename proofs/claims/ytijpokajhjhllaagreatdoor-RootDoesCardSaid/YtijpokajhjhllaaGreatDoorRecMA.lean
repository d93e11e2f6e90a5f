/- Package record: All.
Package record: what may be.
'append(b, s...)': bytes of a text behind a row of bytes of the call's own.
Package record: Right.
Records: the document's table and texts; rows of numbers; Same.
Package record: Bytes.
Package record: Read.
Package record: Same; the document's Large, Ints.
Rows of records. -/
import Derived.Test.YtijpokajhjhllaaGreatDoorRecM
import Derived.Test.YtijpokajhjhllaaGreatDoorFrmMA
import Derived.Test.YtijpokajhjhllaaGreatDoorVintB1
import Derived.Test.YtijpokajhjhllaaGreatDoorLib
import Derived.Test.YtijpokajhjhllaaGreatDoorPar
import Derived.Test.YtijpokajhjhllaaGreatDoorVintA
import Derived.Test.YtijpokajhjhllaaGreatDoorVintR1
import Derived.Test.YtijpokajhjhllaaGreatDoorKeep
set_option maxRecDepth 100000
namespace Go.Proofs.YtijpokajhjhllaaGreatDoor
open Go.RowKit Go.Tum Go.Tum.Crc Go.Tum.Vint

/-- The table that the package lays: how many numbers a kind has. -/
def Tab (w : World) : Prop := ∀ i, i < 18 → w.cell? ⟨0, i, none⟩ = some (.int .i64 ((manyT.getD i 0 : Nat) : Int))
theorem Tab.ext {w w' : World} (h : Tab w) (k : Ext w w') : Tab w' := fun i hi => k.cell (h i hi)
abbrev rv (r : Rc) (v : Value) : Value := .agg #[.int .i64 r.kind, v, .string (str r.text)]
abbrev I64b (x : Int) : Prop := -9223372036854775808 ≤ x ∧ x ≤ 9223372036854775807

theorem known_any (k : Int) (w : World) : Calls Tryz.prog 91 #[.int .i64 k] w fun e w' => e = .returned (.bool (knownB k)) ∧ w = w' := by
  have hk : knownB k = (decide (1 ≤ k) && decide (k ≤ 17)) := rfl
  have HK := hid hk
  clear hk
  by_cases h1 : 1 ≤ k
  · by_cases h2 : k ≤ 17
    · go_enter Tryz.func91, Tryz.ntmps91
      go_wp2
      go_ret
      exact ⟨by rw [HK.out]; simp [h1, h2], rfl⟩
    · go_enter Tryz.func91, Tryz.ntmps91
      go_wp2
      go_ret
      exact ⟨by rw [HK.out]; simp [h1, h2], rfl⟩
  · go_enter Tryz.func91, Tryz.ntmps91
    go_wp2
    go_ret
    have h1' : decide (1 ≤ k) = false := by simpa using h1
    exact ⟨by rw [HK.out, h1']; rfl, rfl⟩

theorem textR_any (k : Int) (n : Nat) (w : World) : Calls Tryz.prog 92 #[.int .i64 k, .int .i64 (n : Int)] w fun e w' => e = .returned (.bool (textB k n)) ∧ w = w' := by
  by_cases h1 : k = 10
  · subst h1
    have HK := hid (show textB 10 n = decide (n ≤ 64) by simp [textB])
    go_enter Tryz.func92, Tryz.ntmps92
    go_wp2
    go_ret
    exact ⟨by rw [HK.out]; simp; omega, rfl⟩
  · by_cases h2 : k = 11
    · subst h2
      have HK := hid (show textB 11 n = decide (n ≤ 64) by simp [textB])
      go_enter Tryz.func92, Tryz.ntmps92
      go_wp2
      go_ret
      exact ⟨by rw [HK.out]; simp; omega, rfl⟩
    · by_cases h3 : k = 16
      · subst h3
        have HK := hid (show textB 16 n = decide (n ≤ 64) by simp [textB])
        go_enter Tryz.func92, Tryz.ntmps92
        go_wp2
        go_ret
        exact ⟨by rw [HK.out]; simp; omega, rfl⟩
      · have HK := hid (show textB k n = decide (n = 0) by simp [textB, h1, h2, h3])
        have e1 : (k == 10) = false := by simpa using h1
        have e2 : (k == 11) = false := by simpa using h2
        have e3 : (k == 16) = false := by simpa using h3
        clear h1 h2 h3
        go_enter Tryz.func92, Tryz.ntmps92
        go_wp2
        go_ret
        have e4 : ((n : Int) == 0) = decide (n = 0) := by
          rw [Bool.eq_iff_iff]; simp
        exact ⟨by rw [HK.out, ← e4]; rfl, rfl⟩
end Go.Proofs.YtijpokajhjhllaaGreatDoor

set_option maxRecDepth 100000
namespace Go.Tum
open Go.RowKit

theorem str_bytes (l : List UInt8) : (((str l).extract 0 l.length).data.map fun b => Value.int .u8 (b.toNat : Int)) = (l.map bv).toArray := by
  have h : (str l).extract 0 l.length = str l := by
    apply ByteArray.ext
    simp [str, ByteArray.data_extract]
  rw [h]
  apply Array.ext'
  simp [str]
theorem run_firstCells_str {P : Program} (w : World) (l : List UInt8) : (Builtin.firstCells 1 l.length (.string (str l))).run P w = .ok (l.map bv).toArray w := by
  simp only [Builtin.firstCells, Sem.run_pure]
  rw [str_bytes]

section
variable {P : Program}
theorem run_append_str (base t st ty e : Nat) (ht : P.underlying t = some (.slice e)) (hst : P.underlying st = some .string) (hi : (P.info? e).map (fun i => (i.zero, i.size, i.bytes)) = some (some (.int .u8 0), 1, 1))
    {w : World} {v : Value} {l1 l2 : List UInt8} (hown : Own w base e v l1) (hb : l1.length + l2.length ≤ 140737488355328) (hbase : base ≤ w.heap.size) :
    ∃ ao cap w', (Builtin.append_ #[t, st] ty #[v, .string (str l2)]).run P w = .ok (.slice ao (l1.length + l2.length) cap) w' ∧ Own w' base e (.slice ao (l1.length + l2.length) cap) (l1 ++ l2) ∧ Below base w w' := by
  obtain ⟨i, hi1, hz, hs, hby⟩ := info_parts hi
  have hf := fun w => run_firstCells_str (P := P) w l2
  have hsz := str_size l2
  have h63 : ¬ (9223372036854775807 < ((l1.length : Int) + (l2.length : Int))) := by omega
  have grown : ∀ old, (w.drew.alloc (.cells ((l1.map bv).toArray ++ (l2.map bv).toArray ++ Builtin.zeroCells (Value.int .u8 0).cells (grownCap w (l1.length + l2.length) old e - (l1.length + l2.length))) e)).ownsRow base e 1
      (.slice (some ⟨w.heap.size, 0, none⟩) (l1.length + l2.length) (grownCap w (l1.length + l2.length) old e)) (l1.length + l2.length) ((l1 ++ l2).map bv) := by
    intro old
    have hge := grownCap_ge w (l1.length + l2.length) old e
    refine ⟨by simp, .inr ⟨w.heap.size, _, _, rfl, hbase, heap_alloc_new w.drew _, hge, grownCap_le_maxLen w _ old e (by simp [maxLen]; omega), ?_, ?_⟩⟩
    · simp [size_zeroCells, Value.cells]; omega
    · simp only [Array.toList_append, ← List.map_append, Nat.mul_one]
      have : ((l1 ++ l2).map bv).length = l1.length + l2.length := by simp
      rw [← this, List.take_left]
  rcases hown.2 with ⟨rfl, h0⟩ | ⟨g, cap, cur, rfl, hbg, hg, hnc, hcm, hcs, htake⟩
  · have hl1 : l1 = [] := List.length_eq_zero_iff.1 h0
    subst hl1
    by_cases hl2 : l2 = []
    · subst hl2
      refine ⟨none, 0, w, ?_, hown, Below.refl _ _⟩
      simp [Builtin.append_, run_underlying ht, run_underlying hst, sizeOf, typeInfo, hi1, Builtin.lenOf, str_size, Builtin.firstCells, Sem.run_pure]
    · have hp := List.length_pos_iff.2 hl2
      have hr := run_append_nil_string (P := P) w t st ty e i (.int .u8 0) ht hst hi1 hz (str l2) (by rw [hsz]; exact hp) (by rw [hsz]; omega) (by rw [hsz, hby]; omega)
      rw [hsz] at hr
      have hg := grown 0
      simp only [List.length_nil, Nat.zero_add, List.map_nil, List.nil_append, List.append_toArray] at hg hr ⊢
      refine ⟨_, _, _, hr, ?_, ((Below.refl _ _).drew).alloc hbase _⟩
      have e1 : (str l2).data.map (fun b => Value.int .u8 (b.toNat : Int)) = (l2.map bv).toArray := by
        apply Array.ext'
        simp [str]
      rw [e1]
      unfold Own
      simpa using hg
  · have hadd : (⟨g, 0, none⟩ : Addr).add (l1.length * 1) = ⟨g, l1.length * 1, none⟩ := by unfold Addr.add; split <;> simp_all
    by_cases hroom : l1.length + l2.length ≤ cap
    · have hst2 := run_storeCells_at P g (l1.length * 1) e (l2.map bv) 0 cur w hg (by simp [hcs]; omega) (bv_one _)
      simp only [Nat.add_zero] at hst2
      refine ⟨some ⟨g, 0, none⟩, cap, w.setRow g (cur.toList.take (l1.length * 1) ++ l2.map bv ++ cur.toList.drop (l1.length * 1 + (l2.map bv).length)).toArray, ?_, ?_, ?_⟩
      rotate_left
      · unfold Own
        rw [show (l1 ++ l2).length = l1.length + l2.length from List.length_append]
        refine ⟨by simp, .inr ⟨g, cap, _, rfl, hbg, setRow_heap w g cur (cur.toList.take (l1.length * 1) ++ l2.map bv ++ cur.toList.drop (l1.length * 1 + (l2.map bv).length)).toArray e _ hg, hroom, hcm, ?_, ?_⟩⟩
        · simp only [List.size_toArray, List.length_append, List.length_take, List.length_drop, Array.length_toList, List.length_map]
          omega
        · have h1 : cur.toList.take (l1.length * 1) = l1.map bv := htake
          rw [h1]
          show (l1.map bv ++ l2.map bv ++ _).take ((l1.length + l2.length) * 1) = (l1 ++ l2).map bv
          have : (l1.map bv ++ l2.map bv).length = (l1.length + l2.length) * 1 := by simp
          rw [← this, List.take_left, List.map_append]
      · exact ⟨rfl, rfl, rfl, by simp, fun k hk => setRow_other w g k _ (by omega)⟩
      · simp only [Nat.mul_one] at hadd hst2
        simp [Builtin.append_, run_underlying ht, run_underlying hst, sizeOf, typeInfo, hi1, Builtin.lenOf, hsz, hs, hroom, hf, hadd, hst2]
    · have holds : ∀ j u, (l1.map bv)[j]? = some u → w.cell? ((⟨g, 0, none⟩ : Addr).add j) = some u := @World.ownsRow.cells w base e 1 _ _ _ hown g rfl
      have hfo := run_firstCells_some (P := P) w.drew 1 l1.length ⟨g, 0, none⟩ l1.length cap (l1.map bv) (by simp) (by simpa using holds)
      have hfit := growslice_fits (need := l1.length + l2.length) (old := cap) (bytes := 1) (by omega) (by omega)
      have h48 : ¬ (281474976710656 < Builtin.nextslicecap (l1.length + l2.length) cap) := by omega
      refine ⟨some ⟨w.heap.size, 0, none⟩, grownCap w (l1.length + l2.length) cap e, _, ?_, by unfold Own; simpa using grown cap, ((Below.refl _ _).drew).alloc hbase _⟩
      simp [Builtin.append_, run_underlying ht, run_underlying hst, sizeOf, typeInfo, zeroValue, hi1, hz, hs, hby, Builtin.lenOf, hsz, hroom, h63, h48, Question.forced, hf, hfo, newRow, grownCap]
      rw [← List.append_toArray, Array.append_assoc]
end
end Go.Tum

set_option maxRecDepth 100000
namespace Go.Proofs.YtijpokajhjhllaaGreatDoor
open Go.RowKit Go.Tum Go.Tum.Crc Go.Tum.Vint

theorem blk3 {w : World} {b : Nat} {p q s : Value} {ty : TypeId} (h : w.heap[b]? = some (.cells #[p, q, s] ty (0, 0))) :
    w.cell? ⟨b, 0, none⟩ = some p ∧ w.cell? ⟨b, 1, none⟩ = some q ∧ w.cell? ⟨b, 2, none⟩ = some s := by
  refine ⟨by rw [cell_of_row _ _ _ _ _ _ h]; rfl, by rw [cell_of_row _ _ _ _ _ _ h]; rfl, by rw [cell_of_row _ _ _ _ _ _ h]; rfl⟩

theorem right_any (r : Rc) (v : Value) (w : World) (hv : Vec uv w v r.n) (ht : Tab w) :
    Calls Tryz.prog 74 #[rv r v] w fun e w' => e = .returned (.bool (rightB r)) ∧ Ext w w' := by
  obtain ⟨ao, cap, rfl, -⟩ := hv.open
  obtain ⟨kind, n, text⟩ := r
  have HT := hid ht
  clear ht hv
  have hE1 := Ext.alloc w (.cells #[.int .i64 kind, .slice ao n.length cap, .string (str text)] 77)
  obtain ⟨c0, c1, c2⟩ := blk3 (heap_alloc_new w (.cells #[.int .i64 kind, .slice ao n.length cap, .string (str text)] 77))
  have hsz := str_size text
  by_cases h1 : knownB kind = true
  · obtain ⟨k, hk18, rfl⟩ : ∃ k : Nat, k < 18 ∧ kind = (k : Int) := by
      simp only [knownB, Bool.and_eq_true, decide_eq_true_eq] at h1
      exact ⟨kind.toNat, by omega, by omega⟩
    by_cases h2 : n.length = manyT.getD k 0
    · have HR := hid (show rightB ⟨(k : Int), n, text⟩ = textB k text.length by simp [rightB, h1, many, h2])
      have e2 : ((n.length : Int) == ((manyT.getD k 0 : Nat) : Int)) = true := by rw [h2]; simp
      obtain ⟨m, hm⟩ : ∃ m, manyT.getD k 0 = m := ⟨_, rfl⟩
      have htab := HT.out k hk18
      rw [hm] at e2 htab
      have H1 := hid h1
      clear h1 h2 hm
      go_enter Tryz.func74, Tryz.ntmps74
      go_wp2_with fail
      generalize w.alloc (.cells #[.int .i64 (k : Int), .slice ao n.length cap, .string (str text)] 77) = W at *
      have HE := hid hE1
      have C0 := hid c0
      have C1 := hid c1
      have C2 := hid c2
      have CT := hid (hE1.cell htab)
      clear hE1 c0 c1 c2 htab
      refine Par.wp_region_par (l := [_, _, _, _, _, _, _, _, _, _, _, _, _, _, _, _, _, _, _, _, _, _]) rfl Ext (Par.VL [Par.EQ (Value.pointer (some ⟨w.heap.size, 0, none⟩)), Par.EQ (Value.int IntKind.i64 (k : Int)), Par.EQ (Value.bool true), Par.EQ (Value.bool true), Par.EQ (Value.pointer (some ⟨w.heap.size, 1, none⟩)), Par.EQ (Value.slice ao n.length cap), Par.EQ (Value.int IntKind.i64 (n.length : Int)), Par.EQ (Value.pointer (some ⟨w.heap.size, 0, none⟩)), Par.EQ (Value.int IntKind.i64 (k : Int)), Par.EQ (Value.pointer (some ⟨0, k, none⟩)), Par.EQ (Value.int IntKind.i64 (m : Int)), Par.EQ (Value.bool true), Par.EQ (Value.bool true), Par.EQ (Value.bool true), Par.EQ (Value.pointer (some ⟨w.heap.size, 0, none⟩)), Par.EQ (Value.int IntKind.i64 (k : Int)), Par.EQ (Value.pointer (some ⟨w.heap.size, 2, none⟩)), Par.EQ (Value.string (str text)), Par.EQ (Value.int IntKind.i64 (text.length : Int)), Par.EQ (Value.bool (textB k text.length)), Par.EQ (Value.bool (textB k text.length)), Par.EQ (Value.bool (textB k text.length))]) (by kernel_rfl) Ext.refl (fun _ _ _ h1 h2 => Ext.trans h1 h2) (Ext.draw _) (Par.VL_stab ?_) ?_ ?_
      · simp only [List.forall_mem_cons, List.not_mem_nil, false_implies, implies_true, and_true]
        refine ⟨fun _ _ _ _ h => h, fun _ _ _ _ h => h, fun _ _ _ _ h => h, fun _ _ _ _ h => h, fun _ _ _ _ h => h, fun _ _ _ _ h => h, fun _ _ _ _ h => h, fun _ _ _ _ h => h, fun _ _ _ _ h => h, fun _ _ _ _ h => h, fun _ _ _ _ h => h, fun _ _ _ _ h => h, fun _ _ _ _ h => h, fun _ _ _ _ h => h, fun _ _ _ _ h => h, fun _ _ _ _ h => h, fun _ _ _ _ h => h, fun _ _ _ _ h => h, fun _ _ _ _ h => h, fun _ _ _ _ h => h, fun _ _ _ _ h => h, fun _ _ _ _ h => h⟩
      · refine ⟨⟨fun _ _ => trivial, fun ρ w' hX hG hk => ?_⟩, ?_⟩
        · obtain ⟨k0, -⟩ := hk
          have e0 : ρ (.tmp 1) = Value.pointer (some ⟨w.heap.size, 0, none⟩) := k0
          clear k0
          refine Par.val_k fun K hK => ?_
          unfold Par.val
          (go_simp; exact hK _ _ ⟨Ext.refl _, rfl⟩)
        refine ⟨⟨fun _ _ => trivial, fun ρ w' hX hG hk => ?_⟩, ?_⟩
        · obtain ⟨k0, -⟩ := hk
          have e0 : ρ (.tmp 3) = Value.pointer (some ⟨w.heap.size, 0, none⟩) := k0
          clear k0
          refine Par.val_k fun K hK => ?_
          unfold Par.val
          (have c := hX.cell C0.out; go_simp; exact hK _ _ ⟨Ext.refl _, rfl⟩)
        refine ⟨⟨fun _ _ => trivial, fun ρ w' hX hG hk => ?_⟩, ?_⟩
        · obtain ⟨k0, k1, -⟩ := hk
          have e0 := k0
          have e1 : ρ (.tmp 4) = Value.int IntKind.i64 (k : Int) := k1
          clear k0 k1
          refine Par.val_k fun K hK => ?_
          unfold Par.val
          refine Par.val_call Tryz.func91 (by kernel_rfl) rfl e0 ?_
          simp only [List.map_toArray, List.map_cons, List.map_nil, e1]
          refine (known_any (k : Int) _).mono ?_
          rintro e w2 ⟨rfl, rfl⟩
          exact ⟨_, rfl, hK _ _ ⟨Ext.refl _, (congrArg Value.bool H1.out)⟩⟩
        refine ⟨⟨fun _ _ => trivial, fun ρ w' hX hG hk => ?_⟩, ?_⟩
        · exact Par.val_of_run rfl ⟨Ext.refl _, hk.1⟩
        refine ⟨⟨fun _ _ u hu => .inl hu, fun ρ w' hX hG hk => ?_⟩, ?_⟩
        · obtain ⟨k0, -⟩ := hk
          have e0 : ρ (.tmp 1) = Value.pointer (some ⟨w.heap.size, 0, none⟩) := k0
          clear k0
          refine Par.val_k fun K hK => ?_
          unfold Par.val
          (go_simp; exact hK _ _ ⟨Ext.refl _, rfl⟩)
        refine ⟨⟨fun _ _ u hu => .inl hu, fun ρ w' hX hG hk => ?_⟩, ?_⟩
        · obtain ⟨k0, -⟩ := hk
          have e0 : ρ (.tmp 7) = Value.pointer (some ⟨w.heap.size, 1, none⟩) := k0
          clear k0
          refine Par.val_k fun K hK => ?_
          unfold Par.val
          (have c := hX.cell C1.out; go_simp; exact hK _ _ ⟨Ext.refl _, rfl⟩)
        refine ⟨⟨fun _ _ u hu => .inl hu, fun ρ w' hX hG hk => ?_⟩, ?_⟩
        · obtain ⟨k0, -⟩ := hk
          have e0 : ρ (.tmp 8) = Value.slice ao n.length cap := k0
          clear k0
          refine Par.val_k fun K hK => ?_
          unfold Par.val
          (go_simp; exact hK _ _ ⟨Ext.refl _, rfl⟩)
        refine ⟨⟨fun _ _ u hu => .inl hu, fun ρ w' hX hG hk => ?_⟩, ?_⟩
        · obtain ⟨k0, -⟩ := hk
          have e0 : ρ (.tmp 1) = Value.pointer (some ⟨w.heap.size, 0, none⟩) := k0
          clear k0
          refine Par.val_k fun K hK => ?_
          unfold Par.val
          (go_simp; exact hK _ _ ⟨Ext.refl _, rfl⟩)
        refine ⟨⟨fun _ _ u hu => .inl hu, fun ρ w' hX hG hk => ?_⟩, ?_⟩
        · obtain ⟨k0, -⟩ := hk
          have e0 : ρ (.tmp 10) = Value.pointer (some ⟨w.heap.size, 0, none⟩) := k0
          clear k0
          refine Par.val_k fun K hK => ?_
          unfold Par.val
          (have c := hX.cell C0.out; go_simp; exact hK _ _ ⟨Ext.refl _, rfl⟩)
        refine ⟨⟨fun _ _ u hu => .inl hu, fun ρ w' hX hG hk => ?_⟩, ?_⟩
        · obtain ⟨k0, k1, -⟩ := hk
          have e0 := k0
          have e1 : ρ (.tmp 11) = Value.int IntKind.i64 (k : Int) := k1
          clear k0 k1
          refine Par.val_k fun K hK => ?_
          unfold Par.val
          (have e9 : ρ (Operand.global 0) = Value.pointer (some ⟨0, 0, none⟩) := e0; have hk19 : (k : Int) < 18 := (by omega); clear e0; go_simp; exact hK _ _ ⟨Ext.refl _, rfl⟩)
        refine ⟨⟨fun _ _ u hu => .inl hu, fun ρ w' hX hG hk => ?_⟩, ?_⟩
        · obtain ⟨k0, -⟩ := hk
          have e0 : ρ (.tmp 12) = Value.pointer (some ⟨0, k, none⟩) := k0
          clear k0
          refine Par.val_k fun K hK => ?_
          unfold Par.val
          (have c := hX.cell CT.out; go_simp; exact hK _ _ ⟨Ext.refl _, rfl⟩)
        refine ⟨⟨fun _ _ u hu => .inl hu, fun ρ w' hX hG hk => ?_⟩, ?_⟩
        · obtain ⟨k0, k1, -⟩ := hk
          have e0 : ρ (.tmp 9) = Value.int IntKind.i64 (n.length : Int) := k0
          have e1 : ρ (.tmp 13) = Value.int IntKind.i64 (m : Int) := k1
          clear k0 k1
          refine Par.val_k fun K hK => ?_
          unfold Par.val
          (go_simp; exact hK _ _ ⟨Ext.refl _, rfl⟩)
        refine ⟨⟨fun _ _ => trivial, fun ρ w' hX hG hk => ?_⟩, ?_⟩
        · obtain ⟨k0, k1, k2, -⟩ := hk
          have e0 : ρ (.tmp 6) = Value.bool true := k0
          have e1 : ρ (.tmp 14) = Value.bool true := k1
          have e2 : ρ (Operand.const (Value.bool false)) = (Value.bool false) := k2
          clear k0 k1 k2
          refine Par.val_k fun K hK => ?_
          unfold Par.val
          (go_simp; exact hK _ _ ⟨Ext.refl _, rfl⟩)
        refine ⟨⟨fun _ _ => trivial, fun ρ w' hX hG hk => ?_⟩, ?_⟩
        · exact Par.val_of_run rfl ⟨Ext.refl _, hk.1⟩
        refine ⟨⟨fun _ _ u hu => .inl hu, fun ρ w' hX hG hk => ?_⟩, ?_⟩
        · obtain ⟨k0, -⟩ := hk
          have e0 : ρ (.tmp 1) = Value.pointer (some ⟨w.heap.size, 0, none⟩) := k0
          clear k0
          refine Par.val_k fun K hK => ?_
          unfold Par.val
          (go_simp; exact hK _ _ ⟨Ext.refl _, rfl⟩)
        refine ⟨⟨fun _ _ u hu => .inl hu, fun ρ w' hX hG hk => ?_⟩, ?_⟩
        · obtain ⟨k0, -⟩ := hk
          have e0 : ρ (.tmp 17) = Value.pointer (some ⟨w.heap.size, 0, none⟩) := k0
          clear k0
          refine Par.val_k fun K hK => ?_
          unfold Par.val
          (have c := hX.cell C0.out; go_simp; exact hK _ _ ⟨Ext.refl _, rfl⟩)
        refine ⟨⟨fun _ _ u hu => .inl hu, fun ρ w' hX hG hk => ?_⟩, ?_⟩
        · obtain ⟨k0, -⟩ := hk
          have e0 : ρ (.tmp 1) = Value.pointer (some ⟨w.heap.size, 0, none⟩) := k0
          clear k0
          refine Par.val_k fun K hK => ?_
          unfold Par.val
          (go_simp; exact hK _ _ ⟨Ext.refl _, rfl⟩)
        refine ⟨⟨fun _ _ u hu => .inl hu, fun ρ w' hX hG hk => ?_⟩, ?_⟩
        · obtain ⟨k0, -⟩ := hk
          have e0 : ρ (.tmp 19) = Value.pointer (some ⟨w.heap.size, 2, none⟩) := k0
          clear k0
          refine Par.val_k fun K hK => ?_
          unfold Par.val
          (have c := hX.cell C2.out; go_simp; exact hK _ _ ⟨Ext.refl _, rfl⟩)
        refine ⟨⟨fun _ _ u hu => .inl hu, fun ρ w' hX hG hk => ?_⟩, ?_⟩
        · obtain ⟨k0, -⟩ := hk
          have e0 : ρ (.tmp 20) = Value.string (str text) := k0
          clear k0
          refine Par.val_k fun K hK => ?_
          unfold Par.val
          (go_simp; exact hK _ _ ⟨Ext.refl _, rfl⟩)
        refine ⟨⟨fun _ _ u hu => .inl hu, fun ρ w' hX hG hk => ?_⟩, ?_⟩
        · obtain ⟨k0, k1, k2, -⟩ := hk
          have e0 := k0
          have e1 : ρ (.tmp 18) = Value.int IntKind.i64 (k : Int) := k1
          have e2 : ρ (.tmp 21) = Value.int IntKind.i64 (text.length : Int) := k2
          clear k0 k1 k2
          refine Par.val_k fun K hK => ?_
          unfold Par.val
          refine Par.val_call Tryz.func92 (by kernel_rfl) rfl e0 ?_
          simp only [List.map_toArray, List.map_cons, List.map_nil, e1, e2]
          refine (textR_any (k : Int) text.length _).mono ?_
          rintro e w2 ⟨rfl, rfl⟩
          exact ⟨_, rfl, hK _ _ ⟨Ext.refl _, (rfl)⟩⟩
        refine ⟨⟨fun _ _ => trivial, fun ρ w' hX hG hk => ?_⟩, ?_⟩
        · obtain ⟨k0, k1, k2, -⟩ := hk
          have e0 : ρ (.tmp 16) = Value.bool true := k0
          have e1 : ρ (.tmp 22) = Value.bool (textB k text.length) := k1
          have e2 : ρ (Operand.const (Value.bool false)) = (Value.bool false) := k2
          clear k0 k1 k2
          refine Par.val_k fun K hK => ?_
          unfold Par.val
          (go_simp; exact hK _ _ ⟨Ext.refl _, rfl⟩)
        refine ⟨⟨fun _ _ => trivial, fun ρ w' hX hG hk => ?_⟩, ?_⟩
        · obtain ⟨k0, -⟩ := hk
          have e0 : ρ (.tmp 23) = Value.bool (textB k text.length) := k0
          clear k0
          refine Par.val_k fun K hK => ?_
          unfold Par.val
          (go_simp; exact hK _ _ ⟨Ext.refl _, rfl⟩)
        trivial
      intro a' w' inv
      have hX := inv.ext
      have q3 : a'.tmps.getD 3 undef = Value.pointer (some ⟨w.heap.size, 0, none⟩) := inv.done 0 _ 3 rfl rfl rfl
      have q4 : a'.tmps.getD 4 undef = Value.int IntKind.i64 (k : Int) := inv.done 1 _ 4 rfl rfl rfl
      have q5 : a'.tmps.getD 5 undef = Value.bool true := inv.done 2 _ 5 rfl rfl rfl
      have q6 : a'.tmps.getD 6 undef = Value.bool true := inv.done 3 _ 6 rfl rfl rfl
      have q7 : a'.tmps.getD 7 undef = Value.pointer (some ⟨w.heap.size, 1, none⟩) := inv.done 4 _ 7 rfl rfl rfl
      have q8 : a'.tmps.getD 8 undef = Value.slice ao n.length cap := inv.done 5 _ 8 rfl rfl rfl
      have q9 : a'.tmps.getD 9 undef = Value.int IntKind.i64 (n.length : Int) := inv.done 6 _ 9 rfl rfl rfl
      have q10 : a'.tmps.getD 10 undef = Value.pointer (some ⟨w.heap.size, 0, none⟩) := inv.done 7 _ 10 rfl rfl rfl
      have q11 : a'.tmps.getD 11 undef = Value.int IntKind.i64 (k : Int) := inv.done 8 _ 11 rfl rfl rfl
      have q12 : a'.tmps.getD 12 undef = Value.pointer (some ⟨0, k, none⟩) := inv.done 9 _ 12 rfl rfl rfl
      have q13 : a'.tmps.getD 13 undef = Value.int IntKind.i64 (m : Int) := inv.done 10 _ 13 rfl rfl rfl
      have q14 : a'.tmps.getD 14 undef = Value.bool true := inv.done 11 _ 14 rfl rfl rfl
      have q15 : a'.tmps.getD 15 undef = Value.bool true := inv.done 12 _ 15 rfl rfl rfl
      have q16 : a'.tmps.getD 16 undef = Value.bool true := inv.done 13 _ 16 rfl rfl rfl
      have q17 : a'.tmps.getD 17 undef = Value.pointer (some ⟨w.heap.size, 0, none⟩) := inv.done 14 _ 17 rfl rfl rfl
      have q18 : a'.tmps.getD 18 undef = Value.int IntKind.i64 (k : Int) := inv.done 15 _ 18 rfl rfl rfl
      have q19 : a'.tmps.getD 19 undef = Value.pointer (some ⟨w.heap.size, 2, none⟩) := inv.done 16 _ 19 rfl rfl rfl
      have q20 : a'.tmps.getD 20 undef = Value.string (str text) := inv.done 17 _ 20 rfl rfl rfl
      have q21 : a'.tmps.getD 21 undef = Value.int IntKind.i64 (text.length : Int) := inv.done 18 _ 21 rfl rfl rfl
      have q22 : a'.tmps.getD 22 undef = Value.bool (textB k text.length) := inv.done 19 _ 22 rfl rfl rfl
      have q23 : a'.tmps.getD 23 undef = Value.bool (textB k text.length) := inv.done 20 _ 23 rfl rfl rfl
      have q2 : a'.tmps.getD 2 undef = Value.bool (textB k text.length) := inv.done 21 _ 2 rfl rfl rfl
      clear inv
      simp only [List.filterMap_cons, List.filterMap_nil, Par.putAll, Act.put, List.setIfInBounds_toArray, List.set_cons_succ, List.set_cons_zero, q3, q4, q5, q6, q7, q8, q9, q10, q11, q12, q13, q14, q15, q16, q17, q18, q19, q20, q21, q22, q23, q2]
      clear q3 q4 q5 q6 q7 q8 q9 q10 q11 q12 q13 q14 q15 q16 q17 q18 q19 q20 q21 q22 q23 q2
      clear a'
      go_wp2
      go_ret
      rw [HR.out]
      exact ⟨rfl, HE.out.trans hX⟩
    · have HR := hid (show rightB ⟨(k : Int), n, text⟩ = false by
        have h3 : decide (n.length = many (k : Int)) = false := by simpa [many] using h2
        simp only [rightB, h3, Bool.and_false, Bool.false_and])
      have e2 : ((n.length : Int) == ((manyT.getD k 0 : Nat) : Int)) = false := by
        rw [beq_eq_false_iff_ne]; omega
      obtain ⟨m, hm⟩ : ∃ m, manyT.getD k 0 = m := ⟨_, rfl⟩
      have htab := HT.out k hk18
      rw [hm] at e2 htab
      have H1 := hid h1
      clear h1 h2 hm
      go_enter Tryz.func74, Tryz.ntmps74
      go_wp2_with fail
      generalize w.alloc (.cells #[.int .i64 (k : Int), .slice ao n.length cap, .string (str text)] 77) = W at *
      have HE := hid hE1
      have C0 := hid c0
      have C1 := hid c1
      have C2 := hid c2
      have CT := hid (hE1.cell htab)
      clear hE1 c0 c1 c2 htab
      refine Par.wp_region_par (l := [_, _, _, _, _, _, _, _, _, _, _, _, _, _, _, _, _, _, _, _, _, _]) rfl Ext (Par.VL [Par.EQ (Value.pointer (some ⟨w.heap.size, 0, none⟩)), Par.EQ (Value.int IntKind.i64 (k : Int)), Par.EQ (Value.bool true), Par.EQ (Value.bool true), Par.EQ (Value.pointer (some ⟨w.heap.size, 1, none⟩)), Par.EQ (Value.slice ao n.length cap), Par.EQ (Value.int IntKind.i64 (n.length : Int)), Par.EQ (Value.pointer (some ⟨w.heap.size, 0, none⟩)), Par.EQ (Value.int IntKind.i64 (k : Int)), Par.EQ (Value.pointer (some ⟨0, k, none⟩)), Par.EQ (Value.int IntKind.i64 (m : Int)), Par.EQ (Value.bool false), Par.EQ (Value.bool false), Par.EQ (Value.bool false), Par.EQ (undef), Par.EQ (undef), Par.EQ (undef), Par.EQ (undef), Par.EQ (undef), Par.EQ (undef), Par.EQ (Value.bool false), Par.EQ (Value.bool false)]) (by kernel_rfl) Ext.refl (fun _ _ _ h1 h2 => Ext.trans h1 h2) (Ext.draw _) (Par.VL_stab ?_) ?_ ?_
      · simp only [List.forall_mem_cons, List.not_mem_nil, false_implies, implies_true, and_true]
        refine ⟨fun _ _ _ _ h => h, fun _ _ _ _ h => h, fun _ _ _ _ h => h, fun _ _ _ _ h => h, fun _ _ _ _ h => h, fun _ _ _ _ h => h, fun _ _ _ _ h => h, fun _ _ _ _ h => h, fun _ _ _ _ h => h, fun _ _ _ _ h => h, fun _ _ _ _ h => h, fun _ _ _ _ h => h, fun _ _ _ _ h => h, fun _ _ _ _ h => h, fun _ _ _ _ h => h, fun _ _ _ _ h => h, fun _ _ _ _ h => h, fun _ _ _ _ h => h, fun _ _ _ _ h => h, fun _ _ _ _ h => h, fun _ _ _ _ h => h, fun _ _ _ _ h => h⟩
      · refine ⟨⟨fun _ _ => trivial, fun ρ w' hX hG hk => ?_⟩, ?_⟩
        · obtain ⟨k0, -⟩ := hk
          have e0 : ρ (.tmp 1) = Value.pointer (some ⟨w.heap.size, 0, none⟩) := k0
          clear k0
          refine Par.val_k fun K hK => ?_
          unfold Par.val
          (go_simp; exact hK _ _ ⟨Ext.refl _, rfl⟩)
        refine ⟨⟨fun _ _ => trivial, fun ρ w' hX hG hk => ?_⟩, ?_⟩
        · obtain ⟨k0, -⟩ := hk
          have e0 : ρ (.tmp 3) = Value.pointer (some ⟨w.heap.size, 0, none⟩) := k0
          clear k0
          refine Par.val_k fun K hK => ?_
          unfold Par.val
          (have c := hX.cell C0.out; go_simp; exact hK _ _ ⟨Ext.refl _, rfl⟩)
        refine ⟨⟨fun _ _ => trivial, fun ρ w' hX hG hk => ?_⟩, ?_⟩
        · obtain ⟨k0, k1, -⟩ := hk
          have e0 := k0
          have e1 : ρ (.tmp 4) = Value.int IntKind.i64 (k : Int) := k1
          clear k0 k1
          refine Par.val_k fun K hK => ?_
          unfold Par.val
          refine Par.val_call Tryz.func91 (by kernel_rfl) rfl e0 ?_
          simp only [List.map_toArray, List.map_cons, List.map_nil, e1]
          refine (known_any (k : Int) _).mono ?_
          rintro e w2 ⟨rfl, rfl⟩
          exact ⟨_, rfl, hK _ _ ⟨Ext.refl _, (congrArg Value.bool H1.out)⟩⟩
        refine ⟨⟨fun _ _ => trivial, fun ρ w' hX hG hk => ?_⟩, ?_⟩
        · exact Par.val_of_run rfl ⟨Ext.refl _, hk.1⟩
        refine ⟨⟨fun _ _ u hu => .inl hu, fun ρ w' hX hG hk => ?_⟩, ?_⟩
        · obtain ⟨k0, -⟩ := hk
          have e0 : ρ (.tmp 1) = Value.pointer (some ⟨w.heap.size, 0, none⟩) := k0
          clear k0
          refine Par.val_k fun K hK => ?_
          unfold Par.val
          (go_simp; exact hK _ _ ⟨Ext.refl _, rfl⟩)
        refine ⟨⟨fun _ _ u hu => .inl hu, fun ρ w' hX hG hk => ?_⟩, ?_⟩
        · obtain ⟨k0, -⟩ := hk
          have e0 : ρ (.tmp 7) = Value.pointer (some ⟨w.heap.size, 1, none⟩) := k0
          clear k0
          refine Par.val_k fun K hK => ?_
          unfold Par.val
          (have c := hX.cell C1.out; go_simp; exact hK _ _ ⟨Ext.refl _, rfl⟩)
        refine ⟨⟨fun _ _ u hu => .inl hu, fun ρ w' hX hG hk => ?_⟩, ?_⟩
        · obtain ⟨k0, -⟩ := hk
          have e0 : ρ (.tmp 8) = Value.slice ao n.length cap := k0
          clear k0
          refine Par.val_k fun K hK => ?_
          unfold Par.val
          (go_simp; exact hK _ _ ⟨Ext.refl _, rfl⟩)
        refine ⟨⟨fun _ _ u hu => .inl hu, fun ρ w' hX hG hk => ?_⟩, ?_⟩
        · obtain ⟨k0, -⟩ := hk
          have e0 : ρ (.tmp 1) = Value.pointer (some ⟨w.heap.size, 0, none⟩) := k0
          clear k0
          refine Par.val_k fun K hK => ?_
          unfold Par.val
          (go_simp; exact hK _ _ ⟨Ext.refl _, rfl⟩)
        refine ⟨⟨fun _ _ u hu => .inl hu, fun ρ w' hX hG hk => ?_⟩, ?_⟩
        · obtain ⟨k0, -⟩ := hk
          have e0 : ρ (.tmp 10) = Value.pointer (some ⟨w.heap.size, 0, none⟩) := k0
          clear k0
          refine Par.val_k fun K hK => ?_
          unfold Par.val
          (have c := hX.cell C0.out; go_simp; exact hK _ _ ⟨Ext.refl _, rfl⟩)
        refine ⟨⟨fun _ _ u hu => .inl hu, fun ρ w' hX hG hk => ?_⟩, ?_⟩
        · obtain ⟨k0, k1, -⟩ := hk
          have e0 := k0
          have e1 : ρ (.tmp 11) = Value.int IntKind.i64 (k : Int) := k1
          clear k0 k1
          refine Par.val_k fun K hK => ?_
          unfold Par.val
          (have e9 : ρ (Operand.global 0) = Value.pointer (some ⟨0, 0, none⟩) := e0; have hk19 : (k : Int) < 18 := (by omega); clear e0; go_simp; exact hK _ _ ⟨Ext.refl _, rfl⟩)
        refine ⟨⟨fun _ _ u hu => .inl hu, fun ρ w' hX hG hk => ?_⟩, ?_⟩
        · obtain ⟨k0, -⟩ := hk
          have e0 : ρ (.tmp 12) = Value.pointer (some ⟨0, k, none⟩) := k0
          clear k0
          refine Par.val_k fun K hK => ?_
          unfold Par.val
          (have c := hX.cell CT.out; go_simp; exact hK _ _ ⟨Ext.refl _, rfl⟩)
        refine ⟨⟨fun _ _ u hu => .inl hu, fun ρ w' hX hG hk => ?_⟩, ?_⟩
        · obtain ⟨k0, k1, -⟩ := hk
          have e0 : ρ (.tmp 9) = Value.int IntKind.i64 (n.length : Int) := k0
          have e1 : ρ (.tmp 13) = Value.int IntKind.i64 (m : Int) := k1
          clear k0 k1
          refine Par.val_k fun K hK => ?_
          unfold Par.val
          (go_simp; exact hK _ _ ⟨Ext.refl _, rfl⟩)
        refine ⟨⟨fun _ _ => trivial, fun ρ w' hX hG hk => ?_⟩, ?_⟩
        · obtain ⟨k0, k1, k2, -⟩ := hk
          have e0 : ρ (.tmp 6) = Value.bool true := k0
          have e1 : ρ (.tmp 14) = Value.bool false := k1
          have e2 : ρ (Operand.const (Value.bool false)) = (Value.bool false) := k2
          clear k0 k1 k2
          refine Par.val_k fun K hK => ?_
          unfold Par.val
          (go_simp; exact hK _ _ ⟨Ext.refl _, rfl⟩)
        refine ⟨⟨fun _ _ => trivial, fun ρ w' hX hG hk => ?_⟩, ?_⟩
        · exact Par.val_of_run rfl ⟨Ext.refl _, hk.1⟩
        refine ⟨⟨fun _ _ u hu => .inr rfl, fun ρ w' hX hG hk => ?_⟩, ?_⟩
        · cases hG
        refine ⟨⟨fun _ _ u hu => .inr rfl, fun ρ w' hX hG hk => ?_⟩, ?_⟩
        · cases hG
        refine ⟨⟨fun _ _ u hu => .inr rfl, fun ρ w' hX hG hk => ?_⟩, ?_⟩
        · cases hG
        refine ⟨⟨fun _ _ u hu => .inr rfl, fun ρ w' hX hG hk => ?_⟩, ?_⟩
        · cases hG
        refine ⟨⟨fun _ _ u hu => .inr rfl, fun ρ w' hX hG hk => ?_⟩, ?_⟩
        · cases hG
        refine ⟨⟨fun _ _ u hu => .inr rfl, fun ρ w' hX hG hk => ?_⟩, ?_⟩
        · cases hG
        refine ⟨⟨fun _ _ => trivial, fun ρ w' hX hG hk => ?_⟩, ?_⟩
        · obtain ⟨k0, k1, k2, -⟩ := hk
          have e0 : ρ (.tmp 16) = Value.bool false := k0
          have e1 : ρ (.tmp 22) = undef := k1
          have e2 : ρ (Operand.const (Value.bool false)) = (Value.bool false) := k2
          clear k0 k1 k2
          refine Par.val_k fun K hK => ?_
          unfold Par.val
          (go_simp; exact hK _ _ ⟨Ext.refl _, rfl⟩)
        refine ⟨⟨fun _ _ => trivial, fun ρ w' hX hG hk => ?_⟩, ?_⟩
        · obtain ⟨k0, -⟩ := hk
          have e0 : ρ (.tmp 23) = Value.bool false := k0
          clear k0
          refine Par.val_k fun K hK => ?_
          unfold Par.val
          (go_simp; exact hK _ _ ⟨Ext.refl _, rfl⟩)
        trivial
      intro a' w' inv
      have hX := inv.ext
      have q3 : a'.tmps.getD 3 undef = Value.pointer (some ⟨w.heap.size, 0, none⟩) := inv.done 0 _ 3 rfl rfl rfl
      have q4 : a'.tmps.getD 4 undef = Value.int IntKind.i64 (k : Int) := inv.done 1 _ 4 rfl rfl rfl
      have q5 : a'.tmps.getD 5 undef = Value.bool true := inv.done 2 _ 5 rfl rfl rfl
      have q6 : a'.tmps.getD 6 undef = Value.bool true := inv.done 3 _ 6 rfl rfl rfl
      have q7 : a'.tmps.getD 7 undef = Value.pointer (some ⟨w.heap.size, 1, none⟩) := inv.done 4 _ 7 rfl rfl rfl
      have q8 : a'.tmps.getD 8 undef = Value.slice ao n.length cap := inv.done 5 _ 8 rfl rfl rfl
      have q9 : a'.tmps.getD 9 undef = Value.int IntKind.i64 (n.length : Int) := inv.done 6 _ 9 rfl rfl rfl
      have q10 : a'.tmps.getD 10 undef = Value.pointer (some ⟨w.heap.size, 0, none⟩) := inv.done 7 _ 10 rfl rfl rfl
      have q11 : a'.tmps.getD 11 undef = Value.int IntKind.i64 (k : Int) := inv.done 8 _ 11 rfl rfl rfl
      have q12 : a'.tmps.getD 12 undef = Value.pointer (some ⟨0, k, none⟩) := inv.done 9 _ 12 rfl rfl rfl
      have q13 : a'.tmps.getD 13 undef = Value.int IntKind.i64 (m : Int) := inv.done 10 _ 13 rfl rfl rfl
      have q14 : a'.tmps.getD 14 undef = Value.bool false := inv.done 11 _ 14 rfl rfl rfl
      have q15 : a'.tmps.getD 15 undef = Value.bool false := inv.done 12 _ 15 rfl rfl rfl
      have q16 : a'.tmps.getD 16 undef = Value.bool false := inv.done 13 _ 16 rfl rfl rfl
      have q17 : a'.tmps.getD 17 undef = undef := inv.done 14 _ 17 rfl rfl rfl
      have q18 : a'.tmps.getD 18 undef = undef := inv.done 15 _ 18 rfl rfl rfl
      have q19 : a'.tmps.getD 19 undef = undef := inv.done 16 _ 19 rfl rfl rfl
      have q20 : a'.tmps.getD 20 undef = undef := inv.done 17 _ 20 rfl rfl rfl
      have q21 : a'.tmps.getD 21 undef = undef := inv.done 18 _ 21 rfl rfl rfl
      have q22 : a'.tmps.getD 22 undef = undef := inv.done 19 _ 22 rfl rfl rfl
      have q23 : a'.tmps.getD 23 undef = Value.bool false := inv.done 20 _ 23 rfl rfl rfl
      have q2 : a'.tmps.getD 2 undef = Value.bool false := inv.done 21 _ 2 rfl rfl rfl
      clear inv
      simp only [List.filterMap_cons, List.filterMap_nil, Par.putAll, Act.put, List.setIfInBounds_toArray, List.set_cons_succ, List.set_cons_zero, q3, q4, q5, q6, q7, q8, q9, q10, q11, q12, q13, q14, q15, q16, q17, q18, q19, q20, q21, q22, q23, q2]
      clear q3 q4 q5 q6 q7 q8 q9 q10 q11 q12 q13 q14 q15 q16 q17 q18 q19 q20 q21 q22 q23 q2
      clear a'
      go_wp2
      go_ret
      rw [HR.out]
      exact ⟨rfl, HE.out.trans hX⟩
  · have h1' : knownB kind = false := by simpa using h1
    have HR := hid (show rightB ⟨kind, n, text⟩ = false by simp only [rightB, h1', Bool.false_and])
    have H1 := hid h1'
    clear h1 h1'
    go_enter Tryz.func74, Tryz.ntmps74
    go_wp2_with fail
    generalize w.alloc (.cells #[.int .i64 kind, .slice ao n.length cap, .string (str text)] 77) = W at *
    have HE := hid hE1
    have C0 := hid c0
    have C1 := hid c1
    have C2 := hid c2
    clear hE1 c0 c1 c2
    refine Par.wp_region_par (l := [_, _, _, _, _, _, _, _, _, _, _, _, _, _, _, _, _, _, _, _, _, _]) rfl Ext (Par.VL [Par.EQ (Value.pointer (some ⟨w.heap.size, 0, none⟩)), Par.EQ (Value.int IntKind.i64 kind), Par.EQ (Value.bool false), Par.EQ (Value.bool false), Par.EQ (undef), Par.EQ (undef), Par.EQ (undef), Par.EQ (undef), Par.EQ (undef), Par.EQ (undef), Par.EQ (undef), Par.EQ (undef), Par.EQ (Value.bool false), Par.EQ (Value.bool false), Par.EQ (undef), Par.EQ (undef), Par.EQ (undef), Par.EQ (undef), Par.EQ (undef), Par.EQ (undef), Par.EQ (Value.bool false), Par.EQ (Value.bool false)]) (by kernel_rfl) Ext.refl (fun _ _ _ h1 h2 => Ext.trans h1 h2) (Ext.draw _) (Par.VL_stab ?_) ?_ ?_
    · simp only [List.forall_mem_cons, List.not_mem_nil, false_implies, implies_true, and_true]
      refine ⟨fun _ _ _ _ h => h, fun _ _ _ _ h => h, fun _ _ _ _ h => h, fun _ _ _ _ h => h, fun _ _ _ _ h => h, fun _ _ _ _ h => h, fun _ _ _ _ h => h, fun _ _ _ _ h => h, fun _ _ _ _ h => h, fun _ _ _ _ h => h, fun _ _ _ _ h => h, fun _ _ _ _ h => h, fun _ _ _ _ h => h, fun _ _ _ _ h => h, fun _ _ _ _ h => h, fun _ _ _ _ h => h, fun _ _ _ _ h => h, fun _ _ _ _ h => h, fun _ _ _ _ h => h, fun _ _ _ _ h => h, fun _ _ _ _ h => h, fun _ _ _ _ h => h⟩
    · refine ⟨⟨fun _ _ => trivial, fun ρ w' hX hG hk => ?_⟩, ?_⟩
      · obtain ⟨k0, -⟩ := hk
        have e0 : ρ (.tmp 1) = Value.pointer (some ⟨w.heap.size, 0, none⟩) := k0
        clear k0
        refine Par.val_k fun K hK => ?_
        unfold Par.val
        (go_simp; exact hK _ _ ⟨Ext.refl _, rfl⟩)
      refine ⟨⟨fun _ _ => trivial, fun ρ w' hX hG hk => ?_⟩, ?_⟩
      · obtain ⟨k0, -⟩ := hk
        have e0 : ρ (.tmp 3) = Value.pointer (some ⟨w.heap.size, 0, none⟩) := k0
        clear k0
        refine Par.val_k fun K hK => ?_
        unfold Par.val
        (have c := hX.cell C0.out; go_simp; exact hK _ _ ⟨Ext.refl _, rfl⟩)
      refine ⟨⟨fun _ _ => trivial, fun ρ w' hX hG hk => ?_⟩, ?_⟩
      · obtain ⟨k0, k1, -⟩ := hk
        have e0 := k0
        have e1 : ρ (.tmp 4) = Value.int IntKind.i64 kind := k1
        clear k0 k1
        refine Par.val_k fun K hK => ?_
        unfold Par.val
        refine Par.val_call Tryz.func91 (by kernel_rfl) rfl e0 ?_
        simp only [List.map_toArray, List.map_cons, List.map_nil, e1]
        refine (known_any kind _).mono ?_
        rintro e w2 ⟨rfl, rfl⟩
        exact ⟨_, rfl, hK _ _ ⟨Ext.refl _, (congrArg Value.bool H1.out)⟩⟩
      refine ⟨⟨fun _ _ => trivial, fun ρ w' hX hG hk => ?_⟩, ?_⟩
      · exact Par.val_of_run rfl ⟨Ext.refl _, hk.1⟩
      refine ⟨⟨fun _ _ u hu => .inr rfl, fun ρ w' hX hG hk => ?_⟩, ?_⟩
      · cases hG
      refine ⟨⟨fun _ _ u hu => .inr rfl, fun ρ w' hX hG hk => ?_⟩, ?_⟩
      · cases hG
      refine ⟨⟨fun _ _ u hu => .inr rfl, fun ρ w' hX hG hk => ?_⟩, ?_⟩
      · cases hG
      refine ⟨⟨fun _ _ u hu => .inr rfl, fun ρ w' hX hG hk => ?_⟩, ?_⟩
      · cases hG
      refine ⟨⟨fun _ _ u hu => .inr rfl, fun ρ w' hX hG hk => ?_⟩, ?_⟩
      · cases hG
      refine ⟨⟨fun _ _ u hu => .inr rfl, fun ρ w' hX hG hk => ?_⟩, ?_⟩
      · cases hG
      refine ⟨⟨fun _ _ u hu => .inr rfl, fun ρ w' hX hG hk => ?_⟩, ?_⟩
      · cases hG
      refine ⟨⟨fun _ _ u hu => .inr rfl, fun ρ w' hX hG hk => ?_⟩, ?_⟩
      · cases hG
      refine ⟨⟨fun _ _ => trivial, fun ρ w' hX hG hk => ?_⟩, ?_⟩
      · obtain ⟨k0, k1, k2, -⟩ := hk
        have e0 : ρ (.tmp 6) = Value.bool false := k0
        have e1 : ρ (.tmp 14) = undef := k1
        have e2 : ρ (Operand.const (Value.bool false)) = (Value.bool false) := k2
        clear k0 k1 k2
        refine Par.val_k fun K hK => ?_
        unfold Par.val
        (go_simp; exact hK _ _ ⟨Ext.refl _, rfl⟩)
      refine ⟨⟨fun _ _ => trivial, fun ρ w' hX hG hk => ?_⟩, ?_⟩
      · exact Par.val_of_run rfl ⟨Ext.refl _, hk.1⟩
      refine ⟨⟨fun _ _ u hu => .inr rfl, fun ρ w' hX hG hk => ?_⟩, ?_⟩
      · cases hG
      refine ⟨⟨fun _ _ u hu => .inr rfl, fun ρ w' hX hG hk => ?_⟩, ?_⟩
      · cases hG
      refine ⟨⟨fun _ _ u hu => .inr rfl, fun ρ w' hX hG hk => ?_⟩, ?_⟩
      · cases hG
      refine ⟨⟨fun _ _ u hu => .inr rfl, fun ρ w' hX hG hk => ?_⟩, ?_⟩
      · cases hG
      refine ⟨⟨fun _ _ u hu => .inr rfl, fun ρ w' hX hG hk => ?_⟩, ?_⟩
      · cases hG
      refine ⟨⟨fun _ _ u hu => .inr rfl, fun ρ w' hX hG hk => ?_⟩, ?_⟩
      · cases hG
      refine ⟨⟨fun _ _ => trivial, fun ρ w' hX hG hk => ?_⟩, ?_⟩
      · obtain ⟨k0, k1, k2, -⟩ := hk
        have e0 : ρ (.tmp 16) = Value.bool false := k0
        have e1 : ρ (.tmp 22) = undef := k1
        have e2 : ρ (Operand.const (Value.bool false)) = (Value.bool false) := k2
        clear k0 k1 k2
        refine Par.val_k fun K hK => ?_
        unfold Par.val
        (go_simp; exact hK _ _ ⟨Ext.refl _, rfl⟩)
      refine ⟨⟨fun _ _ => trivial, fun ρ w' hX hG hk => ?_⟩, ?_⟩
      · obtain ⟨k0, -⟩ := hk
        have e0 : ρ (.tmp 23) = Value.bool false := k0
        clear k0
        refine Par.val_k fun K hK => ?_
        unfold Par.val
        (go_simp; exact hK _ _ ⟨Ext.refl _, rfl⟩)
      trivial
    intro a' w' inv
    have hX := inv.ext
    have q3 : a'.tmps.getD 3 undef = Value.pointer (some ⟨w.heap.size, 0, none⟩) := inv.done 0 _ 3 rfl rfl rfl
    have q4 : a'.tmps.getD 4 undef = Value.int IntKind.i64 kind := inv.done 1 _ 4 rfl rfl rfl
    have q5 : a'.tmps.getD 5 undef = Value.bool false := inv.done 2 _ 5 rfl rfl rfl
    have q6 : a'.tmps.getD 6 undef = Value.bool false := inv.done 3 _ 6 rfl rfl rfl
    have q7 : a'.tmps.getD 7 undef = undef := inv.done 4 _ 7 rfl rfl rfl
    have q8 : a'.tmps.getD 8 undef = undef := inv.done 5 _ 8 rfl rfl rfl
    have q9 : a'.tmps.getD 9 undef = undef := inv.done 6 _ 9 rfl rfl rfl
    have q10 : a'.tmps.getD 10 undef = undef := inv.done 7 _ 10 rfl rfl rfl
    have q11 : a'.tmps.getD 11 undef = undef := inv.done 8 _ 11 rfl rfl rfl
    have q12 : a'.tmps.getD 12 undef = undef := inv.done 9 _ 12 rfl rfl rfl
    have q13 : a'.tmps.getD 13 undef = undef := inv.done 10 _ 13 rfl rfl rfl
    have q14 : a'.tmps.getD 14 undef = undef := inv.done 11 _ 14 rfl rfl rfl
    have q15 : a'.tmps.getD 15 undef = Value.bool false := inv.done 12 _ 15 rfl rfl rfl
    have q16 : a'.tmps.getD 16 undef = Value.bool false := inv.done 13 _ 16 rfl rfl rfl
    have q17 : a'.tmps.getD 17 undef = undef := inv.done 14 _ 17 rfl rfl rfl
    have q18 : a'.tmps.getD 18 undef = undef := inv.done 15 _ 18 rfl rfl rfl
    have q19 : a'.tmps.getD 19 undef = undef := inv.done 16 _ 19 rfl rfl rfl
    have q20 : a'.tmps.getD 20 undef = undef := inv.done 17 _ 20 rfl rfl rfl
    have q21 : a'.tmps.getD 21 undef = undef := inv.done 18 _ 21 rfl rfl rfl
    have q22 : a'.tmps.getD 22 undef = undef := inv.done 19 _ 22 rfl rfl rfl
    have q23 : a'.tmps.getD 23 undef = Value.bool false := inv.done 20 _ 23 rfl rfl rfl
    have q2 : a'.tmps.getD 2 undef = Value.bool false := inv.done 21 _ 2 rfl rfl rfl
    clear inv
    simp only [List.filterMap_cons, List.filterMap_nil, Par.putAll, Act.put, List.setIfInBounds_toArray, List.set_cons_succ, List.set_cons_zero, q3, q4, q5, q6, q7, q8, q9, q10, q11, q12, q13, q14, q15, q16, q17, q18, q19, q20, q21, q22, q23, q2]
    clear q3 q4 q5 q6 q7 q8 q9 q10 q11 q12 q13 q14 q15 q16 q17 q18 q19 q20 q21 q22 q23 q2
    clear a'
    go_wp2
    go_ret
    rw [HR.out]
    exact ⟨rfl, HE.out.trans hX⟩
end Go.Proofs.YtijpokajhjhllaaGreatDoor

set_option maxRecDepth 100000
namespace Go.Proofs.YtijpokajhjhllaaGreatDoor
open Go.RowKit Go.Tum Go.Tum.Crc Go.Tum.Vint

/-- The document's number of numbers; -1: no kind. -/
def rmany (k : Int) : Int := if knownB k then (many k : Int) else -1
def rmanyL : List Int := [-1, 0, 5, 2, 1, 2, 2, 1, 1, 1, 1, 1, 5, 7, 10, 2, 1, 1]
theorem rmany_at : ∀ i : Fin 18, rmanyL.getD i.val 0 = rmany (i.val : Int) := by decide
theorem rmany_bad {k : Int} (h : k < 0 ∨ 17 < k) : rmany k = -1 := by
  have : knownB k = false := by
    unfold knownB
    rcases h with h | h
    · rw [show decide (1 ≤ k) = false from by simp; omega]; rfl
    · rw [show decide (k ≤ 17) = false from by simp; omega, Bool.and_false]
  unfold rmany; rw [this]; rfl

theorem rmany_any (k : Int) (w : World) : Calls Tryz.prog 98 #[.int .i64 k] w fun e w' => e = .returned (.int .i64 (rmany k)) ∧ Ext w w' := by
  have hE := Ext.alloc w (.cells ((rmanyL.map fun i => Value.int .i64 i).toArray) 3)
  have HE := hid hE
  clear hE
  by_cases h1 : k < 0
  · have HR := hid (rmany_bad (.inl h1))
    go_enter Tryz.func98, Tryz.ntmps98
    go_wp2
    go_ret
    rw [HR.out]
    exact ⟨rfl, HE.out⟩
  · by_cases h2 : 17 < k
    · have HR := hid (rmany_bad (.inr h2))
      go_enter Tryz.func98, Tryz.ntmps98
      go_wp2
      go_ret
      rw [HR.out]
      exact ⟨rfl, HE.out⟩
    · obtain ⟨n, rfl⟩ : ∃ n : Nat, k = n := ⟨k.toNat, by omega⟩
      have hn : n < 18 := by omega
      have hn2 : (n : Int) < 18 := by omega
      have hv : (rmanyL.map fun i => Value.int .i64 i)[n]'(by simpa [rmanyL] using hn) = .int .i64 (rmany n) := by
        rw [List.getElem_map, ← rmany_at ⟨n, hn⟩, List.getD_eq_getElem?_getD, List.getElem?_eq_getElem (by simpa [rmanyL] using hn)]
        rfl
      have HV := hid hv
      clear hv
      go_enter Tryz.func98, Tryz.ntmps98
      go_wp2
      go_ret
      exact ⟨congrArg Ending.returned HV.out, HE.out⟩

theorem rtexts_any (k : Int) (n : Nat) (w : World) : Calls Tryz.prog 99 #[.int .i64 k, .int .i64 (n : Int)] w fun e w' => e = .returned (.bool (textB k n)) ∧ w = w' := by
  by_cases h1 : k = 10
  · subst h1
    have HK := hid (show textB 10 n = decide (n ≤ 64) by simp [textB])
    go_enter Tryz.func99, Tryz.ntmps99
    go_wp2
    go_ret
    exact ⟨by rw [HK.out]; simp; omega, rfl⟩
  · by_cases h2 : k = 11
    · subst h2
      have HK := hid (show textB 11 n = decide (n ≤ 64) by simp [textB])
      go_enter Tryz.func99, Tryz.ntmps99
      go_wp2
      go_ret
      exact ⟨by rw [HK.out]; simp; omega, rfl⟩
    · by_cases h3 : k = 16
      · subst h3
        have HK := hid (show textB 16 n = decide (n ≤ 64) by simp [textB])
        go_enter Tryz.func99, Tryz.ntmps99
        go_wp2
        go_ret
        exact ⟨by rw [HK.out]; simp; omega, rfl⟩
      · have HK := hid (show textB k n = decide (n = 0) by simp [textB, h1, h2, h3])
        have e1 : (k == 10) = false := by simpa using h1
        have e2 : (k == 11) = false := by simpa using h2
        have e3 : (k == 16) = false := by simpa using h3
        clear h1 h2 h3
        go_enter Tryz.func99, Tryz.ntmps99
        go_wp2
        go_ret
        have e4 : ((n : Int) == 0) = decide (n = 0) := by
          rw [Bool.eq_iff_iff]; simp
        exact ⟨by rw [HK.out, ← e4]; rfl, rfl⟩

end Go.Proofs.YtijpokajhjhllaaGreatDoor

set_option maxRecDepth 100000
namespace Go.Proofs.YtijpokajhjhllaaGreatDoor
open Go.RowKit Go.Tum Go.Tum.Crc Go.Tum.Vint

theorem val_append2 {P : Program} {ρ : Operand → Value} {w w' : World} {K : Value → World → Prop} {v : Value} {t st : Nat} {s x : Operand}
    {dst : Option Tmp} {ty : TypeId} {pos : String} {after : Array Edge} {guard : Option (Nat × Bool)}
    (h : (Builtin.append_ #[t, st] ty #[ρ s, ρ x]).run P w = .ok v w') (hk : K v w') :
    Par.vUpon P K ((execOp ρ { dst, op := .call { callee := .builtin .append, args := #[s, x], argTypes := #[t, st] }, type := ty, pos, after, guard }).run P w) := by
  unfold execOp
  simp only [resolve, invoke, builtin, Sem.run_bind, Sem.run_pure, Result.andThen_ok, List.map_toArray, List.map_cons, List.map_nil, h]
  exact hk
theorem recBytes_ok {r : Rc} (h : rightB r = true) : recBytes r = (fbytes (recFr r), 0) := by unfold recBytes; rw [if_pos h]
theorem recBytes_bad {r : Rc} (h : rightB r = false) : recBytes r = ([], 1) := by unfold recBytes; rw [h]; rfl
theorem right_num {r : Rc} (h : rightB r = true) : r.n.length ≤ 10 ∧ r.text.length ≤ 64 ∧ 1 ≤ r.kind ∧ r.kind ≤ 17 := by
  simp only [rightB, Bool.and_eq_true, decide_eq_true_eq] at h
  have h2 := many_le r.kind
  have h3 := textB_le h.2
  have h4 := h.1.1
  simp only [knownB, Bool.and_eq_true, decide_eq_true_eq] at h4
  omega
theorem kind_wrap {k : Int} (h1 : 1 ≤ k) (h2 : k ≤ 17) : IntKind.u8.wrap k = ((UInt8.ofNat k.toNat).toNat : Int) := by
  have : k.toNat < 256 := by omega
  rw [IntKind.wrap_u8]
  simp; omega

theorem bytes5_any (r : Rc) (v : Value) (w : World) (hv : Vec uv w v r.n) (ht : Tab w) :
    Calls Tryz.prog 33 #[rv r v] w fun e w' => ∃ x, e = .returned (.tuple #[x, .int .i64 (recBytes r).2]) ∧ Own w' w.heap.size 5 x (recBytes r).1 ∧ Ext w w' := by
  obtain ⟨ao, cap, rfl, -⟩ := hv.open
  obtain ⟨kind, n, text⟩ := r
  have HT := hid ht
  have HV := hid hv
  clear ht hv
  have hE1 := Ext.alloc w (.cells #[.int .i64 kind, .slice ao n.length cap, .string (str text)] 77)
  obtain ⟨c0, c1, c2⟩ := blk3 (heap_alloc_new w (.cells #[.int .i64 kind, .slice ao n.length cap, .string (str text)] 77))
  obtain ⟨B, hB⟩ : ∃ B, rightB ⟨kind, n, text⟩ = B := ⟨_, rfl⟩
  have HB := hid hB
  clear hB
  go_enter Tryz.func33, Tryz.ntmps33
  go_wp2_with fail
  generalize w.alloc (.cells #[.int .i64 kind, .slice ao n.length cap, .string (str text)] 77) = W at *
  have HE := hid hE1
  clear hE1
  go_wp2_with fail
  refine (right_any ⟨kind, n, text⟩ (.slice ao n.length cap) _ (HV.out.ext HE.out) (HT.out.ext HE.out)).mono ?_
  rintro e w1 ⟨rfl, hw1⟩
  rw [HB.out]
  have d0 := hw1.cell c0
  have d1 := hw1.cell c1
  have d2 := hw1.cell c2
  have HE1 := hid (HE.out.trans hw1)
  clear c0 c1 c2 hw1
  cases B with
  | false =>
    have HR := hid (recBytes_bad HB.out)
    go_wp2
    go_ret2
    rw [HR.out]
    exact ⟨_, rfl, Own.nil _ _ _, HE1.out⟩
  | true =>
    have HR := hid (recBytes_ok HB.out)
    obtain ⟨hn, htx, hk1, hk2⟩ := right_num HB.out
    simp only at hn htx hk1 hk2
    have hw8 := kind_wrap hk1 hk2
    obtain ⟨k8, hk8⟩ : ∃ k8, UInt8.ofNat kind.toNat = k8 := ⟨_, rfl⟩
    rw [hk8] at hw8
    have HK8 := hid hk8
    clear hk8
    have hvl := vall_len n
    go_wp2_with fail
    have C0 := hid d0
    have C1 := hid d1
    have C2 := hid d2
    have HVL := hid hvl
    clear d0 d1 d2 hvl
    refine ParB.wp_region_par (l := [_, _, _, _, _, _, _]) rfl Ext (ParB.XI 5 (World.heap w1).size) (ParB.VLB [ParB.EQ (Value.pointer (some ⟨w.heap.size, 1, none⟩)), ParB.EQ (Value.slice ao n.length cap), (fun L v w' => L 5 = true ∨ Own w' w1.heap.size 5 v (vall n)), ParB.EQ (Value.pointer (some ⟨w.heap.size, 2, none⟩)), ParB.EQ (Value.string (str text)), (fun L v w' => L 5 = true ∧ Own w' w1.heap.size 5 v (vall n ++ text)), (fun L v w' => L 5 = true ∧ Own w' w1.heap.size 5 v (vall n ++ text))]) (by kernel_rfl) (ParB.XI_refl _ _) ParB.XI_trans (Ext.draw _) (ParB.stab_mk 2 (by kernel_rfl) ?_ ?_) ?_ ?_
    · simp only [List.forall_mem_cons, List.not_mem_nil, false_implies, implies_true, and_true]
      refine ⟨fun _ _ _ _ _ _ h => h, fun _ _ _ _ _ _ h => h, fun i L v a b k hh => hh.imp (fun e => by simp [ParB.upd, e]) (fun q => q.ext k), fun _ _ _ _ _ _ h => h, fun _ _ _ _ _ _ h => h, fun i L v a b k hh => ⟨by simp [ParB.upd, hh.1], hh.2.ext k⟩, fun i L v a b k hh => ⟨by simp [ParB.upd, hh.1], hh.2.ext k⟩⟩
    · simp only [List.set_cons_succ, List.set_cons_zero, List.forall_mem_cons, List.not_mem_nil, false_implies, implies_true, and_true, true_and]
      refine ⟨fun _ _ _ _ _ _ h => h, fun _ _ _ _ _ _ h => h, fun L v a b hL k hh => .inl (by simp [ParB.upd]), fun _ _ _ _ _ _ h => h, fun _ _ _ _ _ _ h => h, fun L v a b hL k hh => absurd hh.1 (by simp [hL])⟩
    · refine ⟨⟨fun _ _ _ => trivial, fun L ρ w' hX hL hG hk => ?_⟩, ?_⟩
      · obtain ⟨k0, -⟩ := hk
        have e0 : ρ (.tmp 1) = Value.pointer (some ⟨w.heap.size, 0, none⟩) := k0
        clear k0
        refine Par.val_k fun K hK => ?_
        unfold Par.val
        (go_simp; exact hK _ _ ⟨ParB.XI_refl _ _ 0 _, rfl⟩)
      refine ⟨⟨fun _ _ _ => trivial, fun L ρ w' hX hL hG hk => ?_⟩, ?_⟩
      · obtain ⟨k0, -⟩ := hk
        have e0 : ρ (.tmp 8) = Value.pointer (some ⟨w.heap.size, 1, none⟩) := k0
        clear k0
        refine Par.val_k fun K hK => ?_
        unfold Par.val
        (have c := hX.cell C1.out; go_simp; exact hK _ _ ⟨ParB.XI_refl _ _ 1 _, rfl⟩)
      refine ⟨⟨fun _ _ _ => trivial, fun L ρ w' hX hL hG hk => ?_⟩, ?_⟩
      · obtain ⟨k0, k1, -⟩ := hk
        have e0 := k0
        have e1 : ρ (.tmp 9) = Value.slice ao n.length cap := k1
        clear k0 k1
        refine Par.val_k fun K hK => ?_
        unfold Par.val
        refine Par.val_call Tryz.func75 (by kernel_rfl) rfl e0 ?_
        simp only [List.map_toArray, List.map_cons, List.map_nil, e1]
        refine (vall_any _ n _ ((HV.out.ext HE1.out).ext hX) (by omega)).mono ?_
        rintro e w2 ⟨r, rfl, hr, hx2⟩
        exact ⟨_, rfl, hK _ _ ⟨ParB.XI_other (i0 := 5) (i := 2) (by decide) (hx2), .inr (hr.mono hX.size)⟩⟩
      refine ⟨⟨fun _ _ _ => trivial, fun L ρ w' hX hL hG hk => ?_⟩, ?_⟩
      · obtain ⟨k0, -⟩ := hk
        have e0 : ρ (.tmp 1) = Value.pointer (some ⟨w.heap.size, 0, none⟩) := k0
        clear k0
        refine Par.val_k fun K hK => ?_
        unfold Par.val
        (go_simp; exact hK _ _ ⟨ParB.XI_refl _ _ 3 _, rfl⟩)
      refine ⟨⟨fun _ _ _ => trivial, fun L ρ w' hX hL hG hk => ?_⟩, ?_⟩
      · obtain ⟨k0, -⟩ := hk
        have e0 : ρ (.tmp 11) = Value.pointer (some ⟨w.heap.size, 2, none⟩) := k0
        clear k0
        refine Par.val_k fun K hK => ?_
        unfold Par.val
        (have c := hX.cell C2.out; go_simp; exact hK _ _ ⟨ParB.XI_refl _ _ 4 _, rfl⟩)
      refine ⟨⟨fun _ _ _ => trivial, fun L ρ w' hX hL hG hk => ?_⟩, ?_⟩
      · obtain ⟨k0, k1, -⟩ := hk
        have e0 : (fun L v w' => L 5 = true ∨ Own w' w1.heap.size 5 v (vall n)) L (ρ (.tmp 10)) w' := k0
        have e1 : ρ (.tmp 12) = Value.string (str text) := k1
        clear k0 k1
        refine Par.val_k fun K hK => ?_
        unfold Par.val
        (have ho := e0.resolve_left (by simp [hL]); obtain ⟨ao2, cap2, w2, hr, ho2, hb2⟩ := run_append_str (P := Tryz.prog) w1.heap.size 37 9 37 5 Tryz.underlying37 Tryz.underlying9 info8 (l2 := text) ho (by have := HVL.out; omega) hX.size; rw [← e1] at hr; have ho3 : Own _ _ _ _ (vall n ++ text) := ho2; refine val_append2 hr (hK _ _ ⟨ParB.XI_same hb2, by simp [ParB.upd], ho3⟩))
      refine ⟨⟨fun _ _ _ => trivial, fun L ρ w' hX hL hG hk => ?_⟩, ?_⟩
      · obtain ⟨k0, -⟩ := hk
        have e0 : (fun L v w' => L 5 = true ∧ Own w' w1.heap.size 5 v (vall n ++ text)) L (ρ (.tmp 13)) w' := k0
        clear k0
        refine Par.val_k fun K hK => ?_
        unfold Par.val
        (go_simp; exact hK _ _ ⟨ParB.XI_refl _ _ 6 _, by simp [ParB.upd, e0.1], e0.2⟩)
      trivial
    intro a' w' inv
    have hX := inv.ext
    have q8 : a'.tmps.getD 8 undef = Value.pointer (some ⟨w.heap.size, 1, none⟩) := inv.done 0 _ 8 rfl rfl rfl
    have q9 : a'.tmps.getD 9 undef = Value.slice ao n.length cap := inv.done 1 _ 9 rfl rfl rfl
    have q10 : (fun L v w' => L 5 = true ∨ Own w' w1.heap.size 5 v (vall n)) (ParB.Lof (Array.replicate 7 true)) (a'.tmps.getD 10 undef) w' := inv.done 2 _ 10 rfl rfl rfl
    have q11 : a'.tmps.getD 11 undef = Value.pointer (some ⟨w.heap.size, 2, none⟩) := inv.done 3 _ 11 rfl rfl rfl
    have q12 : a'.tmps.getD 12 undef = Value.string (str text) := inv.done 4 _ 12 rfl rfl rfl
    have q13 : (fun L v w' => L 5 = true ∧ Own w' w1.heap.size 5 v (vall n ++ text)) (ParB.Lof (Array.replicate 7 true)) (a'.tmps.getD 13 undef) w' := inv.done 5 _ 13 rfl rfl rfl
    have q4 : (fun L v w' => L 5 = true ∧ Own w' w1.heap.size 5 v (vall n ++ text)) (ParB.Lof (Array.replicate 7 true)) (a'.tmps.getD 4 undef) w' := inv.done 6 _ 4 rfl rfl rfl
    clear inv
    simp only [List.filterMap_cons, List.filterMap_nil, Par.putAll, Act.put, List.setIfInBounds_toArray, List.set_cons_succ, List.set_cons_zero, q8, q9, q11, q12]
    clear q8 q9 q11 q12
    generalize a'.tmps.getD 10 undef = u10 at *
    generalize a'.tmps.getD 13 undef = u13 at *
    generalize a'.tmps.getD 4 undef = u4 at *
    clear a'
    obtain ⟨BT, hBT⟩ : ∃ BT, vall n ++ text = BT := ⟨_, rfl⟩
    have ho4 := q4.2
    rw [hBT] at ho4
    have HO := hid ho4
    clear ho4
    have d0 := hX.cell C0.out
    have HX := hid hX
    clear q10 q13 q4 hX
    obtain ⟨ao4, cap4, rfl, -⟩ := HO.out.byt.open
    obtain ⟨W2, rfl⟩ : ∃ W2 : World, W2 = w' := ⟨_, rfl⟩
    go_wp2_with fail
    have hfv : recFr ⟨kind, n, text⟩ = ⟨k8, BT⟩ := by rw [← HK8.out, ← hBT]; rfl
    have hcall := fbytes_any ⟨k8, BT⟩ _ _ HO.out.byt
    have hfb : fbytesR (recFr ⟨kind, n, text⟩) = (fbytes (recFr ⟨kind, n, text⟩), 0) := by
      unfold fbytesR; rw [if_neg (by have := body_le HB.out; simp only [recFr]; omega)]
    obtain ⟨FB, hFB⟩ : ∃ FB, fbytes (recFr ⟨kind, n, text⟩) = FB := ⟨_, rfl⟩
    rw [hFB] at hfb
    rw [hfv] at hfb
    rw [hfb] at hcall
    have HFB := hid hFB
    clear hFB hfb hfv
    refine hcall.mono ?_
    rintro e w2 ⟨r, rfl, hr, hw2⟩
    clear hcall
    go_wp2
    go_ret2
    rw [HR.out, HFB.out]
    exact ⟨_, rfl, hr.mono (Nat.le_trans HE1.out.size HX.out.size), HE1.out.trans (HX.out.trans hw2)⟩
end Go.Proofs.YtijpokajhjhllaaGreatDoor

set_option maxRecDepth 100000
namespace Go.Proofs.YtijpokajhjhllaaGreatDoor
open Go.RowKit Go.Tum Go.Tum.Crc Go.Tum.Vint

def ReadR5 (T : Nat) (w : World) (x : Fr) (e : Ending) (w' : World) : Prop :=
  ∃ v, e = .returned (.tuple #[rv (recRead x).1 v, .int .i64 (recRead x).2]) ∧ OwV uv w' w.heap.size T v (recRead x).1.n ∧ Ext w w'

theorem read5_results (tmps : Array Value) (w : World) (B : Nat) (p q s : Value) (h2 : tmps.getD 2 undef = .pointer (some ⟨B, 0, none⟩)) (m0 : w.cell? ⟨B, 0, none⟩ = some p) (m1 : w.cell? ⟨B, 1, none⟩ = some q) (m2 : w.cell? ⟨B, 2, none⟩ = some s) :
    (results Tryz.f86 tmps).run Tryz.prog w = .ok (.tuple #[.agg #[p, q, s], tmps.getD 3 undef]) w := by
  have h2' : tmps[2]?.getD undef = .pointer (some ⟨B, 0, none⟩) := by simpa using h2
  simp [results, Tryz.results86, go_sem, h2', m0, m1, m2]

/-- What the loop knows: k of m numbers are read, acc, and left is left. -/
def GR (m k : Nat) (body : List UInt8) (acc : List UInt64) (left : List UInt8) : Prop := (gets m body).2.2 = (gets (m - k) left).2.2 ∧
  ((gets (m - k) left).2.2 = 0 → (gets m body).1 = acc ++ (gets (m - k) left).1 ∧ (gets m body).2.1 = (gets (m - k) left).2.1)
theorem GR.start (m : Nat) (body : List UInt8) : GR m 0 body [] body := ⟨rfl, fun _ => ⟨rfl, rfl⟩⟩
theorem GR.err {m k : Nat} {body left : List UInt8} {acc : List UInt64} (h : GR m k body acc left) (hk : k < m) (he : (vget left).2.2 ≠ 0) : (gets m body).2.2 = (vget left).2.2 := by
  have h1 := h.1
  obtain ⟨j, hj⟩ : ∃ j, m - k = j + 1 := ⟨m - k - 1, by omega⟩
  rw [hj] at h1
  rw [h1]
  simp only [gets]
  rw [if_pos he]
theorem GR.step {m k : Nat} {body left : List UInt8} {acc : List UInt64} (h : GR m k body acc left) (hk : k < m) (he : (vget left).2.2 = 0) :
    GR m (k + 1) body (acc ++ [UInt64.ofNat (vget left).1]) (left.drop (vget left).2.1) := by
  obtain ⟨h1, h2⟩ := h
  obtain ⟨j, hj⟩ : ∃ j, m - k = j + 1 := ⟨m - k - 1, by omega⟩
  have hj2 : m - (k + 1) = j := by omega
  rw [hj] at h1 h2
  unfold GR
  rw [hj2]
  simp only [gets] at h1 h2
  rw [if_neg (by simp [he])] at h1 h2
  by_cases h3 : (gets j (left.drop (vget left).2.1)).2.2 = 0
  · rw [if_neg (by simp [h3])] at h1 h2
    refine ⟨by rw [h1, h3], fun _ => ?_⟩
    obtain ⟨i1, i2⟩ := h2 rfl
    exact ⟨by rw [i1]; simp, i2⟩
  · rw [if_pos h3] at h1
    exact ⟨h1, fun h => absurd h h3⟩
theorem GR.fin {m : Nat} {body left : List UInt8} {acc : List UInt64} (h : GR m m body acc left) : gets m body = (acc, left, 0) := by
  obtain ⟨h1, h2⟩ := h
  rw [Nat.sub_self] at h1 h2
  obtain ⟨i1, i2⟩ := h2 rfl
  apply Prod.ext
  · rw [i1]; simp [gets]
  · exact Prod.ext (by rw [i2]; rfl) h1

theorem blk3f {w : World} {b : Nat} {p q s : Value} {ty : TypeId} (h : w.heap[b]? = some (.cells #[p, q, s] ty (0, 0))) :
    w.cell? ⟨b, 0, none⟩ = some p ∧ w.cell? ⟨b, 1, none⟩ = some q ∧ w.cell? ⟨b, 2, none⟩ = some s ∧ w.frozen? ⟨b, 0, none⟩ = false ∧ w.frozen? ⟨b, 1, none⟩ = false ∧ w.frozen? ⟨b, 2, none⟩ = false := by
  obtain ⟨h1, h2, h3⟩ := blk3 h
  exact ⟨h1, h2, h3, by simp [World.frozen?, h], by simp [World.frozen?, h], by simp [World.frozen?, h]⟩
theorem owv_setLow {α : Type} {f : α → Value} {w : World} {b e : Nat} {v : Value} {l : List α} (h : OwV f w b e v l) (a : Addr) (u : Value) (ha : a.block < b) : OwV f (w.setCell a u) b e v l := by
  refine ⟨h.1, ?_⟩
  rcases h.2 with hn | ⟨g', cap', cur, hv, hb, hgg, rest⟩
  · exact .inl hn
  · exact .inr ⟨g', cap', cur, hv, hb, by rw [heap_setCell_other _ _ _ _ (by omega)]; exact hgg, rest⟩
theorem recRead_none {k : UInt8} {b : List UInt8} (h : knownB k.toNat = false) : recRead ⟨k, b⟩ = (r0, 2) := by unfold recRead; rw [if_pos h]
theorem recRead_some {k : UInt8} {b : List UInt8} (h : knownB k.toNat = true) : recRead ⟨k, b⟩ =
    if (gets (many k.toNat) b).2.2 ≠ 0 then (r0, ((gets (many k.toNat) b).2.2 : Int)) else if textB k.toNat (gets (many k.toNat) b).2.1.length = false then (r0, 2) else (⟨k.toNat, (gets (many k.toNat) b).1, (gets (many k.toNat) b).2.1⟩, 0) := by
  unfold recRead
  rw [if_neg (by simp [h])]

theorem below_obj {B g : Nat} {a b : World} {o : Obj} (h : Below B a b) (hg : g < B) (ho : a.heap[g]? = some o) : b.heap[g]? = some o := by
  exact (h.block g hg).trans ho
set_option maxRecDepth 100000 in
set_option maxHeartbeats 4000000 in
theorem read5_any (x : Fr) (v : Value) (w : World) (hb : Byt w v x.body) (ht : Tab w) :
    Calls Tryz.prog 86 #[fv x v] w (ReadR5 31 w x) := by
  obtain ⟨ao, cap, rfl, -⟩ := hb.open
  obtain ⟨kind, body⟩ := x
  have HT := hid ht
  have HB := hid hb
  clear ht hb
  obtain ⟨KB, hKB⟩ : ∃ KB, knownB (kind.toNat : Int) = KB := ⟨_, rfl⟩
  have HKB := hid hKB
  clear hKB
  have hkl := kind.toNat_lt
  have hwk : wrap64 (kind.toNat : Int) = (kind.toNat : Int) := IntWalk.wrap64_in _ ⟨by omega, by omega⟩
  have hB1 : ((w.alloc (.cells #[.int .u8 (kind.toNat : Int), .slice ao body.length cap] 114)).alloc (.cells #[.int .i64 0, .slice none 0 0, .string ⟨#[]⟩] 77)).heap[w.heap.size + 1]? = some (.cells #[.int .i64 0, .slice none 0 0, .string ⟨#[]⟩] 77 (0, 0)) := by
    have := heap_alloc_new (w.alloc (.cells #[.int .u8 (kind.toNat : Int), .slice ao body.length cap] 114)) (.cells #[.int .i64 0, .slice none 0 0, .string ⟨#[]⟩] 77)
    simpa using this
  go_enter Tryz.func86, Tryz.ntmps86
  go_wp2_with fail
  refine (known_any (kind.toNat : Int) _).mono ?_
  rintro e w1 ⟨rfl, rfl⟩
  rw [HKB.out]
  have hE1 := Ext.alloc w (.cells #[.int .u8 (kind.toNat : Int), .slice ao body.length cap] 114)
  have hB0 := heap_alloc_new w (.cells #[.int .u8 (kind.toNat : Int), .slice ao body.length cap] 114)
  have hS1 : (w.alloc (.cells #[.int .u8 (kind.toNat : Int), .slice ao body.length cap] 114)).heap.size = w.heap.size + 1 := by simp
  generalize w.alloc (.cells #[.int .u8 (kind.toNat : Int), .slice ao body.length cap] 114) = W1 at *
  have hE2 := Ext.alloc W1 (.cells #[.int .i64 0, .slice none 0 0, .string ⟨#[]⟩] 77)
  have hS2 : (W1.alloc (.cells #[.int .i64 0, .slice none 0 0, .string ⟨#[]⟩] 77)).heap.size = w.heap.size + 1 + 1 := by simp [hS1]
  generalize W1.alloc (.cells #[.int .i64 0, .slice none 0 0, .string ⟨#[]⟩] 77) = W2 at *
  have hE3 := Ext.alloc W2 (.cells #[.int .i64 (kind.toNat : Int), .slice none 0 0, .string ⟨#[]⟩] 77)
  have hS3 : (W2.alloc (.cells #[.int .i64 (kind.toNat : Int), .slice none 0 0, .string ⟨#[]⟩] 77)).heap.size = w.heap.size + 3 := by simp [hS2]
  have hB2 := heap_alloc_new W2 (.cells #[.int .i64 (kind.toNat : Int), .slice none 0 0, .string ⟨#[]⟩] 77)
  rw [hS2] at hB2
  generalize W2.alloc (.cells #[.int .i64 (kind.toNat : Int), .slice none 0 0, .string ⟨#[]⟩] 77) = W3 at *
  replace hB0 := hE3.obj (hE2.obj hB0)
  replace hB1 := hE3.obj hB1
  have HE := hid (hE1.trans (hE2.trans hE3))
  clear hE1 hE2 hE3 hS1 hS2
  have HS3 := hid hS3
  have hlt3 : w.heap.size + 1 < W3.heap.size := by omega
  clear hS3
  cases KB with
  | false =>
    have HR := hid (recRead_none (b := body) HKB.out)
    obtain ⟨k0, k1, k2, k3, k4, k5⟩ := blk3f hB1
    have hB1' := Go.Joins.block_setCell (i := 2) (Go.Joins.block_setCell (i := 1) (Go.Joins.block_setCell (i := 0) hB1 (.int .i64 0)) (.slice none 0 0)) (.string ⟨#[]⟩)
    clear hB1 hB0 hB2
    go_wp2
    obtain ⟨m0, m1, m2, -⟩ := blk3f hB1'
    refine bodyPost_ret (read5_results _ _ _ _ _ _ rfl m0 m1 m2) rfl ?_
    unfold ReadR5
    rw [HR.out]
    have hE := HE.out
    exact ⟨.slice none 0 0, rfl, World.ownsRow_nil _ _ _ _, by (repeat' (first | (with_reducible exact Below.refl _ _) | (with_reducible assumption) | (with_reducible refine Below.alloc ?_ ?_ _) | (with_reducible refine Below.drew ?_) | (with_reducible refine Below.setCell ?_ ?_ _) | (refine Go.Tum.Ext.trans ?_ (by with_reducible assumption)) | go_size))⟩
  | true =>
    have HR := hid (recRead_some (b := body) HKB.out)
    have hk18 : kind.toNat < 18 := by
      have := HKB.out
      simp only [knownB, Bool.and_eq_true, decide_eq_true_eq] at this
      omega
    have hk19 : (kind.toNat : Int) < 18 := by omega
    have htab := HE.out.cell (HT.out kind.toNat hk18)
    obtain ⟨m, hm⟩ : ∃ m, manyT.getD kind.toNat 0 = m := ⟨_, rfl⟩
    rw [hm] at htab
    have hmm : many (kind.toNat : Int) = m := by rw [← hm]; simp [many]
    have hm10 : m ≤ 10 := by rw [← hmm]; exact many_le _
    have HMM := hid hmm
    clear hm hmm
    obtain ⟨j0, j1, -⟩ := blk2 hB0
    obtain ⟨k0, k1, k2, k3, k4, k5⟩ := blk3f hB2
    have HB1 := hid hB1
    have HB2 := hid hB2
    clear hB0 hB1 hB2
    go_wp2
    clear j0 j1 k0 k1 k2 k3 k4 k5 htab
    go_loopw [5, 24] (fun l i wr => ∃ (k : Nat) (left : List UInt8) (lo : Option Addr) (lc : Nat) (acc : List UInt64) (bo : Option Addr) (bc : Nat), k ≤ m ∧ i = .int .i64 k ∧ l = .slice lo left.length lc ∧ left.length ≤ 9223372036854775807 ∧ Hid (Byt w (.slice lo left.length lc) left) ∧ Hid (acc.length = k) ∧ Hid (GR m k body acc left) ∧ Hid (OwV uv wr (w.heap.size + 3) 31 (.slice bo k bc) acc) ∧
      Hid (wr.heap[w.heap.size + 1]? = some (.cells #[.int .i64 0, .slice none 0 0, .string ⟨#[]⟩] 77 (0, 0))) ∧ Hid (wr.heap[w.heap.size + 1 + 1]? = some (.cells #[.int .i64 (kind.toNat : Int), .slice bo k bc, .string ⟨#[]⟩] 77 (0, 0))) ∧ Hid (Ext w wr) ∧ Hid (w.heap.size + 3 ≤ wr.heap.size)) (fun _ i _ => m - (intOf i).toNat)
    case atStart =>
      refine ⟨0, body, ao, cap, [], none, 0, by omega, rfl, rfl, ?_, HB, rfl, GR.start _ _, World.ownsRow_nil _ _ _ _, HB1, HB2, HE, by show _ ≤ _; have := HS3.out; omega⟩
      obtain ⟨_, _, e, h1, h2, -⟩ := HB.out.open
      omega
    case round =>
      obtain ⟨k, left, lo, lc, acc, bo, bc, hk, rfl, rfl, hleft, HL, HA, HG, HO, HB1, HB2, HE, HSZ⟩ := hrel
      obtain ⟨j0, j1, j2, j3, j4, j5⟩ := blk3f HB1.out
      obtain ⟨k0, k1, k2, k3, k4, k5⟩ := blk3f HB2.out
      have hsz0 : w.heap.size + 3 ≤ wr.heap.size := HSZ.out
      by_cases hlt : k < m
      · obtain ⟨n, u, e, hv⟩ : ∃ n u e, vget left = (n, u, e) := ⟨_, _, _, rfl⟩
        have HV := hid hv
        clear hv
        by_cases he : e = 0
        · subst he
          have hok := vget_ok HV.out
          have hus := vget_used HV.out
          have hn := hok.1
          have hI1 : (u : Int) ≤ left.length := by omega
          have hul : u ≤ left.length := hus.2
          have hstep := HG.out.step hlt (by rw [HV.out])
          rw [HV.out] at hstep
          have HS := hid hstep
          have HDR := hid fun ao' hao => Vec.drop (f := bv) HL.out u hul ao' hao (left.length - u) (lc - u) rfl rfl
          have hlc : left.length ≤ lc := by
            obtain ⟨_, _, e, h1, h2, -⟩ := HL.out.open
            cases e; exact h1
          clear hok hus hstep
          go_wp2_with fail
          refine (vget_any _ left _ (HL.out.ext HE.out)).mono ?_
          rintro e w1 ⟨rfl, rfl⟩
          rw [HV.out]
          have hE1 := Ext.alloc wr (.cells #[.int .u64 (n : Int)] 31)
          have hS1 : wr.heap.size + 1 = (wr.alloc (.cells #[.int .u64 (n : Int)] 31)).heap.size := by simp
          have hV1 := Vec.one (f := uv) wr 31 (.int .u64 (n : Int)) (UInt64.ofNat n) (by simp [uv]; omega)
          have HO1 := hid (HO.out.ext hE1)
          have HE1 := hid (HE.out.trans hE1)
          have HB3 := hid (hE1.obj HB1.out)
          have HB4 := hid (hE1.obj HB2.out)
          have HV1 := hid hV1
          clear hE1 hV1
          go_wp2_with (at_builtin; refine wpList_append_vec uv_one rfl (.tmp 37) (.tmp 39) 75 rfl (w.heap.size + 3) 31 Tryz.underlying75 info64 rfl rfl HO1.out rfl HV1.out (k + 1) (by rw [HA.out]; rfl) (by omega) (by omega) (by omega) ?_; intro ao2 cap2 w2 hown2 hg2 hb2; obtain ⟨p0, p1, p2, p3, p4, p5⟩ := blk3f (below_obj hb2 (by omega) HB4.out); obtain ⟨HOW, HBE⟩ := And.intro (hid hown2) (hid hb2); clear hown2 hg2 hb2)
          go_roundw
          case rel =>
            have hb1 := below_obj HBE.out (by omega) HB3.out
            have hb2 := Go.Joins.block_setCell (i := 1) (below_obj HBE.out (by omega) HB4.out) (.slice ao2 (k + 1) cap2)
            have hE := Below.trans HE1.out (HBE.out.mono (by omega))
            have hsz2 := HBE.out.size
            refine ⟨k + 1, left.drop u, (if lc = u then lo else Option.map (fun x => x.add u) lo), lc - u, acc ++ [UInt64.ofNat n], ao2, cap2, by omega, by go_num, by rw [List.length_drop], by simp; omega, hid ?_, hid (by simp [HA.out]), HS, owv_setLow HOW.out _ _ (by dsimp only; omega), hid ?_, hid hb2, Below.setCell hE (by dsimp only; omega) _, hid (by simp; omega)⟩
            · rw [List.length_drop]; exact HDR.out _ rfl
            · rw [heap_setCell_other _ _ _ _ (by dsimp only; omega)]; exact hb1
          case measure => simp [intOf]; omega
        · have hne : ((e : Int) != 0) = true := by rw [bne_iff_ne]; omega
          have hg := HG.out.err hlt (by rw [HV.out]; exact he)
          rw [HV.out, ← HMM.out] at hg
          have hR := HR.out
          rw [hg, if_pos he] at hR
          have HR2 := hid hR
          clear hg hR
          have hB1' := Go.Joins.block_setCell (i := 2) (Go.Joins.block_setCell (i := 1) (Go.Joins.block_setCell (i := 0) HB1.out (.int .i64 0)) (.slice none 0 0)) (.string ⟨#[]⟩)
          go_wp2_with fail
          refine (vget_any _ left _ (HL.out.ext HE.out)).mono ?_
          rintro e w1 ⟨rfl, rfl⟩
          rw [HV.out]
          go_wp2
          obtain ⟨m0, m1, m2, -⟩ := blk3f hB1'
          refine bodyPost_ret (read5_results _ _ _ _ _ _ rfl m0 m1 m2) rfl ?_
          unfold ReadR5
          rw [HR2.out]
          have hE := HE.out
          exact ⟨.slice none 0 0, rfl, World.ownsRow_nil _ _ _ _, by (repeat' (first | (with_reducible exact Below.refl _ _) | (with_reducible assumption) | (with_reducible refine Below.alloc ?_ ?_ _) | (with_reducible refine Below.drew ?_) | (with_reducible refine Below.setCell ?_ ?_ _) | (refine Go.Tum.Ext.trans ?_ (by with_reducible assumption)) | go_size))⟩
      · obtain rfl : k = m := by omega
        have hg := HG.out.fin
        rw [HMM.out] at HR
        have hR := HR.out
        rw [hg] at hR
        obtain ⟨TB, hTB⟩ : ∃ TB, textB (kind.toNat : Int) left.length = TB := ⟨_, rfl⟩
        simp only [hTB, ne_eq, not_true_eq_false, if_false] at hR
        have HTB := hid hTB
        have HR2 := hid hR
        clear hg hR hTB
        go_wp2_with fail
        refine (textR_any (kind.toNat : Int) left.length _).mono ?_
        rintro e w1 ⟨rfl, rfl⟩
        rw [HTB.out]
        cases TB with
        | false =>
          have hB1' := Go.Joins.block_setCell (i := 2) (Go.Joins.block_setCell (i := 1) (Go.Joins.block_setCell (i := 0) HB1.out (.int .i64 0)) (.slice none 0 0)) (.string ⟨#[]⟩)
          go_wp2
          obtain ⟨m0, m1, m2, -⟩ := blk3f hB1'
          refine bodyPost_ret (read5_results _ _ _ _ _ _ rfl m0 m1 m2) rfl ?_
          unfold ReadR5
          rw [HR2.out]
          have hE := HE.out
          exact ⟨.slice none 0 0, rfl, World.ownsRow_nil _ _ _ _, by (repeat' (first | (with_reducible exact Below.refl _ _) | (with_reducible assumption) | (with_reducible refine Below.alloc ?_ ?_ _) | (with_reducible refine Below.drew ?_) | (with_reducible refine Below.setCell ?_ ?_ _) | (refine Go.Tum.Ext.trans ?_ (by with_reducible assumption)) | go_size))⟩
        | true =>
          have e1 := run_string_byt (P := Tryz.prog) (HL.out.ext HE.out) 37 9 5 Tryz.underlying37 Tryz.underlying5 Tryz.underlying9
          go_wp2
          have hb1 : (wr.setCell ⟨w.heap.size + 1 + 1, 2, none⟩ (.string (str left))).heap[w.heap.size + 1]? = some (.cells #[.int .i64 0, .slice none 0 0, .string ⟨#[]⟩] 77 (0, 0)) := by
            rw [heap_setCell_other _ _ _ _ (by dsimp only; omega)]; exact HB1.out
          have hB1' := Go.Joins.block_setCell (i := 2) (Go.Joins.block_setCell (i := 1) (Go.Joins.block_setCell (i := 0) hb1 (.int .i64 (kind.toNat : Int))) (.slice bo k bc)) (.string (str left))
          obtain ⟨m0, m1, m2, -⟩ := blk3f hB1'
          refine bodyPost_ret (read5_results _ _ _ _ _ _ rfl m0 m1 m2) rfl ?_
          unfold ReadR5
          rw [HR2.out]
          have hE := HE.out
          refine ⟨.slice bo k bc, rfl, ?_, by (repeat' (first | (with_reducible exact Below.refl _ _) | (with_reducible assumption) | (with_reducible refine Below.alloc ?_ ?_ _) | (with_reducible refine Below.drew ?_) | (with_reducible refine Below.setCell ?_ ?_ _) | (refine Go.Tum.Ext.trans ?_ (by with_reducible assumption)) | go_size))⟩
          exact OwV.mono (owv_setLow (owv_setLow (owv_setLow (owv_setLow HO.out _ _ (by dsimp only; omega)) _ _ (by dsimp only; omega)) _ _ (by dsimp only; omega)) _ _ (by dsimp only; omega)) (by omega)
end Go.Proofs.YtijpokajhjhllaaGreatDoor

set_option maxRecDepth 100000
namespace Go.Proofs.YtijpokajhjhllaaGreatDoor
open Go.RowKit Go.Tum Go.Tum.Crc Go.Tum.Vint

def recSame (a b : Rc) : Bool := decide (a = b)
theorem recSame_eq (a b : Rc) : recSame a b = ((a.kind == b.kind) && ((a.n == b.n) && (a.text == b.text))) := by
  unfold recSame
  cases a; cases b
  simp only [Rc.mk.injEq]
  rw [Bool.eq_iff_iff]; simp
theorem str_inj {a b : List UInt8} : str a = str b ↔ a = b := ⟨fun h => by rw [← str_data a, h, str_data b], fun h => by rw [h]⟩

def largeB (r : Rc) : Bool := decide (100 < r.n.length) || decide (300 < r.text.length)
abbrev iv (n : Nat) : Value := .int .i64 (n : Int)
end Go.Proofs.YtijpokajhjhllaaGreatDoor

set_option maxRecDepth 100000
namespace Go.Proofs.YtijpokajhjhllaaGreatDoor
open Go.RowKit Go.Tum Go.Tum.Crc Go.Tum.Vint

abbrev rcells (p : Rc × Value) : List Value := [.int .i64 p.1.kind, p.2, .string (str p.1.text)]
/-- The slice v holds the records l. -/
def Rcs (w : World) (v : Value) (l : List Rc) : Prop := ∃ m : List (Rc × Value), m.map (·.1) = l ∧ RowsOf w 3 v rcells m ∧ ∀ p ∈ m, Vec uv w p.2 p.1.n
theorem Rcs.ext {w w' : World} {v : Value} {l : List Rc} (h : Rcs w v l) (k : Ext w w') : Rcs w' v l := by
  obtain ⟨m, h1, h2, h3⟩ := h
  exact ⟨m, h1, h2.ext k, fun p hp => (h3 p hp).ext k⟩
/-- The call's own row of records: blocks of type T; the numbers lie in blocks of numbers. -/
def RcsO (w : World) (base T : Nat) (v : Value) (l : List Rc) : Prop := ∃ m : List (Rc × Value), m.map (·.1) = l ∧ w.ownsRow base T 3 v m.length (m.flatMap rcells) ∧ ∀ p ∈ m, OwV uv w base 31 p.2 p.1.n
theorem RcsO.rcs {w : World} {base T : Nat} {v : Value} {l : List Rc} (h : RcsO w base T v l) : Rcs w v l := by
  obtain ⟨m, h1, h2, h3⟩ := h
  exact ⟨m, h1, ⟨fun _ _ => rfl, Sl.of_owns h2⟩, fun p hp => (h3 p hp).vec⟩
theorem RcsO.ext {w w' : World} {base T : Nat} {v : Value} {l : List Rc} (h : RcsO w base T v l) (k : Ext w w') : RcsO w' base T v l := by
  obtain ⟨m, h1, h2, h3⟩ := h
  exact ⟨m, h1, k.owns h2, fun p hp => (h3 p hp).ext k⟩
theorem RcsO.mono {w : World} {b b' T : Nat} {v : Value} {l : List Rc} (h : RcsO w b T v l) (hb : b' ≤ b) : RcsO w b' T v l := by
  obtain ⟨m, h1, h2, h3⟩ := h
  exact ⟨m, h1, owns_mono h2 hb, fun p hp => (h3 p hp).mono hb⟩
theorem RcsO.nil (w : World) (base T : Nat) : RcsO w base T (.slice none 0 0) [] := ⟨[], rfl, World.ownsRow_nil _ _ _ _, fun p hp => absurd hp (by simp)⟩
theorem RcsO.lit0 (w : World) (base T : Nat) (hB : base ≤ w.heap.size) : RcsO (w.alloc (.cells #[] T)) base T (.slice (some ⟨w.heap.size, 0, none⟩) 0 0) [] :=
  ⟨[], rfl, by simpa using World.ownsRow_lit (base := base) (e := T) (size := 3) w #[] 0 hB (by simp [maxLen]) (by simp), fun p hp => absurd hp (by simp)⟩
theorem RcsO.len {w : World} {b T : Nat} {ao : Option Addr} {n cap : Nat} {l : List Rc} (h : RcsO w b T (.slice ao n cap) l) : n = l.length := by
  obtain ⟨m, rfl, h2, _⟩ := h
  rcases h2.2 with ⟨e, e2⟩ | ⟨g, c, cur, e, _⟩
  · cases e; simp [e2]
  · cases e; simp
theorem RcsO.open {w : World} {b T : Nat} {v : Value} {l : List Rc} (h : RcsO w b T v l) : ∃ ao cap, v = .slice ao l.length cap := by
  obtain ⟨m, rfl, h2, _⟩ := h
  rcases h2.2 with ⟨e, e2⟩ | ⟨g, c, cur, e, _⟩
  · subst e; exact ⟨none, 0, by simp [e2]⟩
  · subst e; exact ⟨_, c, by simp; rfl⟩
/-- Records lie in other blocks than a row of another type. -/
theorem RcsO.far {w w' : World} {b b' T f size n : Nat} {u v : Value} {xs : List Value} {l : List Rc} (h : RcsO w b T v l) (hu : w.ownsRow b' f size u n xs) (h1 : T ≠ f) (h2 : 31 ≠ f) (hg : w.grownBy w' u.ownBlock) : RcsO w' b T v l := by
  obtain ⟨m, hm, k2, k3⟩ := h
  exact ⟨m, hm, rows_far k2 hu h1 hg, fun p hp => rows_far (k3 p hp) hu h2 hg⟩

section
variable {P : Program}
/-- 'append(s, x)': s the call's own row of records, x a record in a block of its own. -/
theorem wpList_append_rc {ops : Array Oper} {rest : List Oper} {o : Oper} {a : Act} {w : World} {Q : Exit → Act → World → Prop} (hgd : o.guard = none) (s x : Operand) (t : Nat)
    (ho : o.op = .call { callee := .builtin .append, args := #[s, x], argTypes := #[t, t] }) (base T : Nat) (ht : P.underlying t = some (.slice T))
    (hi : (P.info? T).map (fun i => (i.zero, i.size, i.bytes)) = some (some (.agg #[.int .i64 0, .slice none 0 0, .string ⟨#[]⟩]), 3, 48)) (hT : 31 ≠ T)
    {v : Value} {l : List Rc} (hs : a.eval s = v) (hown : RcsO w base T v l) {g : Nat} {y : Rc} {r : Value} (hx : a.eval x = .slice (some ⟨g, 0, none⟩) 1 1)
    {ty : TypeId} {fr : Nat × Nat} (hblk : w.heap[g]? = some (.cells #[.int .i64 y.kind, r, .string (str y.text)] ty fr)) (hr : OwV uv w base 31 r y.n)
    (N : Nat) (hN : N = l.length + 1) (hb : N * 48 ≤ 140737488355328) (hbase : base ≤ w.heap.size)
    (h : ∀ ao cap w', RcsO w' base T (.slice ao N cap) (l ++ [y]) → w.grownBy w' v.ownBlock → Below base w w' → wpList P ops Q rest (a.put o.dst (.slice ao N cap)) w') :
    wpList P ops Q (o :: rest) a w := by
  subst hN
  obtain ⟨m, rfl, h2, h3⟩ := hown
  have hone : r.oneCell' = true := by
    obtain ⟨ao, cap, rfl, _⟩ := hr.vec.open
    rfl
  have hsl : Sl w 3 (.slice (some ⟨g, 0, none⟩) 1 1) 1 [.int .i64 y.kind, r, .string (str y.text)] := by
    refine ⟨rfl, some ⟨g, 0, none⟩, 1, rfl, Nat.le_refl _, by simp [maxLen], (fun h => by cases h), fun a ha j u hu => ?_⟩
    cases ha
    have e1 : (⟨g, 0, none⟩ : Addr).add j = ⟨g, j, none⟩ := by unfold Addr.add; split <;> simp_all
    rw [e1, cell_of_row _ _ _ _ _ _ hblk]
    simpa using hu
  have hlen : (m.map (·.1)).length = m.length := by simp
  rw [hlen] at hb h
  refine wpList_append_sl hgd s x t ho base T ht hi rfl (by decide) hs h2 hx hsl (by
    intro y' hy'
    simp at hy'
    rcases hy' with rfl | rfl | rfl
    · rfl
    · exact hone
    · rfl) (by simp [maxLen]; omega) (by omega) hbase fun ao cap w' k1 k2 k3 => ?_
  refine h ao cap w' ⟨m ++ [(y, r)], by simp, by simpa using k1, ?_⟩ k2 k3
  intro p hp
  rcases List.mem_append.1 hp with hp | hp
  · exact rows_far (h3 p hp) h2 hT k2
  · simp at hp; subst hp
    exact rows_far hr h2 hT k2
end
theorem iv_one (x : Nat) : (iv x).oneCell' = true := rfl
theorem infoRc : (Tryz.prog.info? 77).map (fun i => (i.zero, i.size, i.bytes)) = some (some (.agg #[.int .i64 0, .slice none 0 0, .string ⟨#[]⟩]), 3, 48) := by kernel_rfl
theorem infoRRc : (Tryz.prog.info? 82).map (fun i => (i.zero, i.size, i.bytes)) = some (some (.agg #[.int .i64 0, .slice none 0 0, .string ⟨#[]⟩]), 3, 48) := by kernel_rfl
theorem infoInt : (Tryz.prog.info? 3).map (fun i => (i.zero, i.size, i.bytes)) = some (some (.int .i64 0), 1, 8) := by kernel_rfl

/-- What All answers. -/
def AllR5 (T : Nat) (w : World) (b : List UInt8) (e : Ending) (w' : World) : Prop :=
  ∃ v u, e = .returned (.tuple #[v, u, .int .i64 (rall 0 b).2.2]) ∧ RcsO w' w.heap.size T v (rall 0 b).1 ∧ OwV iv w' w.heap.size 3 u (rall 0 b).2.1 ∧ Ext w w'
end Go.Proofs.YtijpokajhjhllaaGreatDoor

set_option maxRecDepth 100000
namespace Go.Proofs.YtijpokajhjhllaaGreatDoor
open Go.RowKit Go.Tum Go.Tum.Crc Go.Tum.Vint

theorem ret_rall {x y : Value} {e f : Int} (k : e = f) : Ending.returned (.tuple #[x, y, .int .i64 e]) = .returned (.tuple #[x, y, .int .i64 f]) := by rw [k]

theorem far_rcs {α : Type} {f : α → Value} {w w' : World} {b b' e T : Nat} {u v : Value} {l : List α} {m : List Rc} (h : OwV f w b e v l) (ho : RcsO w b' T u m) (hne : e ≠ T) (hg : w.grownBy w' u.ownBlock) : OwV f w' b e v l := by
  obtain ⟨q, _, h2, _⟩ := ho
  exact rows_far h h2 hne hg

set_option maxRecDepth 100000 in
set_option maxHeartbeats 4000000 in
theorem all5_any (v : Value) (b : List UInt8) (w : World) (hb : Byt w v b) (hl : b.length ≤ 1048576) (ht : Tab w) :
    Calls Tryz.prog 47 #[v] w (AllR5 77 w b) := by
  obtain ⟨ao, cap, rfl, hle, hm, hnn, hcell⟩ := hb.open
  clear hcell
  have HN := hid hnn
  have HB := hid hb
  have HT := hid ht
  clear hb hnn ht
  go_enter Tryz.func47, Tryz.ntmps47
  go_wp2
  go_loopw [5, 6, 7] (fun o q i wr => ∃ (k : Nat) (m : List Rc) (es : List Nat) (bo : Option Addr) (cbp : Nat) (co : Option Addr) (ccp : Nat), k ≤ b.length ∧ i = .int .i64 k ∧ m.length ≤ k ∧ es.length ≤ k ∧ o = .slice bo m.length cbp ∧ q = .slice co es.length ccp ∧
      Hid (RcsO wr w.heap.size 77 (.slice bo m.length cbp) m) ∧ Hid (OwV iv wr w.heap.size 3 (.slice co es.length ccp) es) ∧
      Hid (rall 0 b = (m ++ (rall k (b.drop k)).1, es ++ (rall k (b.drop k)).2.1, (rall k (b.drop k)).2.2)) ∧ Hid (Ext w wr)) (fun _ _ i _ => b.length - (intOf i).toNat)
  case atStart => exact ⟨0, [], [], none, 0, none, 0, by omega, rfl, by simp, by simp, rfl, rfl, RcsO.nil _ _ _, World.ownsRow_nil _ _ _ _, hid (by simp), Ext.refl _⟩
  case round =>
    obtain ⟨k, m, es, bo, cbp, co, ccp, hk, rfl, hmk, hek, rfl, rfl, HO, HI, HV, HE⟩ := hrel
    by_cases hlt : k < b.length
    · obtain ⟨a, rfl⟩ := HN.out (by omega)
      have hp : Byt w (.slice (some (a.add k)) (b.length - k) (cap - k)) (b.drop k) := by
        have h := Byt.part HB.out k b.length (by omega) (Nat.le_refl _) (some (a.add k)) (by rw [if_neg (by omega)]; simp)
        rwa [List.take_of_length_le (by simp)] at h
      have HP := hid hp
      have hne : b.drop k ≠ [] := by intro h; have := congrArg List.length h; simp at this; omega
      obtain ⟨y, n, er, hfr⟩ : ∃ y n er, fread (b.drop k) = (y, n, er) := ⟨_, _, _, rfl⟩
      clear hp
      go_wp2_with fail
      refine (read_any _ (b.drop k) _ (HP.out.ext HE.out) (by simp; omega)).mono ?_
      rintro e w1 ⟨r, rfl, hr, hw1⟩
      rw [hfr] at hr ⊢
      simp only [] at hr
      have hE1 := HE.out.trans hw1
      obtain ⟨so, sc, rfl, -, -, -, -⟩ := hr.byt.open
      by_cases her : er = 0
      · subst her
        have hn := fread_le (b.drop k) (by rw [hfr])
        rw [hfr] at hn
        simp only [List.length_drop] at hn
        obtain ⟨z, er2, hrd⟩ : ∃ z er2, recRead y = (z, er2) := ⟨_, _, rfl⟩
        have HFR := hid hfr
        have HRD := hid hrd
        have HNE := hid hne
        have HO1 := hid (HO.out.ext hw1)
        have HI1 := hid (HI.out.ext hw1)
        have HR1 := hid (hr.mono HE.out.size)
        have HX1 := hid hE1
        clear hfr hrd hr hw1 hE1 hne
        obtain ⟨c0, c1, -⟩ := blk2 (heap_alloc_new w1 (.cells #[.int .u8 (y.kind.toNat : Int), .slice so y.body.length sc] 114))
        go_wp2_with fail
        have hE2 := Ext.alloc w1 (.cells #[.int .u8 (y.kind.toNat : Int), .slice so y.body.length sc] 114)
        generalize w1.alloc (.cells #[.int .u8 (y.kind.toNat : Int), .slice so y.body.length sc] 114) = W1 at *
        have HX2 := hid (HX1.out.trans hE2)
        have HO2 := hid (HO1.out.ext hE2)
        have HI2 := hid (HI1.out.ext hE2)
        have HR2 := hid (HR1.out.ext hE2)
        clear hE2 c0 c1
        refine (read5_any y (.slice so y.body.length sc) _ HR2.out.byt (HT.out.ext HX2.out)).mono ?_
        rintro e w2 ⟨r2, rfl, hr2, hw2⟩
        rw [HRD.out] at hr2 ⊢
        simp only [] at hr2
        obtain ⟨to, tc, rfl, -⟩ := hr2.vec.open
        have HX3 := hid (HX2.out.trans hw2)
        have HO3 := hid (HO2.out.ext hw2)
        have HI3 := hid (HI2.out.ext hw2)
        have HR3 := hid (hr2.mono HX2.out.size)
        clear hr2 hw2
        by_cases her2 : er2 = 0
        · subst her2
          have hok := rall_ok (k := k) HNE.out (by rw [HFR.out]) (by rw [HFR.out, HRD.out])
          rw [HFR.out] at hok
          simp only [HRD.out, List.drop_drop] at hok
          have HOK := hid hok
          clear hok
          obtain ⟨d0, d1, d2⟩ := blk3 (heap_alloc_new w2 (.cells #[.int .i64 z.kind, .slice to z.n.length tc, .string (str z.text)] 77))
          have hblk : ((w2.alloc (.cells #[.int .i64 z.kind, .slice to z.n.length tc, .string (str z.text)] 77)).alloc (.cells #[.int .i64 z.kind, .slice to z.n.length tc, .string (str z.text)] 77)).heap[w2.heap.size + 1]? = some (.cells #[.int .i64 z.kind, .slice to z.n.length tc, .string (str z.text)] 77) := by
            have := heap_alloc_new (w2.alloc (.cells #[.int .i64 z.kind, .slice to z.n.length tc, .string (str z.text)] 77)) (.cells #[.int .i64 z.kind, .slice to z.n.length tc, .string (str z.text)] 77)
            rwa [World.size_alloc] at this
          have HBLK := hid hblk
          have hsz2 := HX3.out.size
          clear hblk
          have hN48 : (m.length + 1) * 48 ≤ 140737488355328 := by omega
          have HO4 := hid ((HO3.out.ext (Ext.alloc _ (.cells #[.int .i64 z.kind, .slice to z.n.length tc, .string (str z.text)] 77))).ext (Ext.alloc _ (.cells #[.int .i64 z.kind, .slice to z.n.length tc, .string (str z.text)] 77)))
          have HI4 := hid ((HI3.out.ext (Ext.alloc _ (.cells #[.int .i64 z.kind, .slice to z.n.length tc, .string (str z.text)] 77))).ext (Ext.alloc _ (.cells #[.int .i64 z.kind, .slice to z.n.length tc, .string (str z.text)] 77)))
          have HR4 := hid ((HR3.out.ext (Ext.alloc _ (.cells #[.int .i64 z.kind, .slice to z.n.length tc, .string (str z.text)] 77))).ext (Ext.alloc _ (.cells #[.int .i64 z.kind, .slice to z.n.length tc, .string (str z.text)] 77)))
          have HX4 := hid ((HX3.out.trans (Ext.alloc _ (.cells #[.int .i64 z.kind, .slice to z.n.length tc, .string (str z.text)] 77))).trans (Ext.alloc _ (.cells #[.int .i64 z.kind, .slice to z.n.length tc, .string (str z.text)] 77)))
          have hes : (es.length + 1) * 8 ≤ 140737488355328 := by omega
          go_wp2_with (first
            | (at_builtin; refine wpList_append_rc rfl (.tmp 42) (.tmp 44) 85 rfl w.heap.size 77 Tryz.underlying85 infoRc (by decide) rfl HO4.out rfl HBLK.out HR4.out (m.length + 1) rfl hN48 (by simp; omega) ?_; intro ao2 cap2 w3 hown2 hg2 hb2; obtain ⟨HO5, HI5, HX5⟩ := And.intro (hid hown2) (And.intro (hid (far_rcs HI4.out HO4.out (by decide) hg2)) (hid (HX4.out.below hb2))); have hsz3 := HX5.out.size; clear hown2 hg2 hb2)
            | (at_builtin; refine wpList_append_vec iv_one rfl (.tmp 46) (.tmp 48) 36 rfl w.heap.size 3 Tryz.underlying36 infoInt rfl rfl (HI5.out.ext (Ext.alloc _ _)) rfl (Vec.one _ _ _ (k + n) (by simp)) (es.length + 1) (by simp) hes (by omega) (by simp; omega) ?_; intro ao3 cap3 w4 hown3 hg3 hb3))
          go_roundw
          case rel =>
            refine ⟨k + n, m ++ [z], es ++ [k + n], ao2, cap2, ao3, cap3, by omega, by go_num, by simp; omega, by simp; omega, by simp, by simp, hid ?_, hid ?_, hid ?_, (HX5.out.trans (Ext.alloc _ _)).below hb3⟩
            · have := RcsO.far (HO5.out.ext (Ext.alloc _ (.cells #[.int .i64 ((k : Int) + (n : Int))] 3))) (HI5.out.ext (Ext.alloc _ _)) (by decide) (by decide) hg3
              simpa using this
            · simpa using hown3
            · rw [HV.out, HOK.out]; simp
          case measure => simp [intOf]; omega
        · have he2 : (er2 != 0) = true := by simp [her2]
          have herr := rall_form (k := k) HNE.out (by rw [HFR.out]) (by rw [HFR.out, HRD.out]; exact her2)
          rw [HFR.out] at herr
          simp only [HRD.out] at herr
          have HERR := hid herr
          clear herr her2
          go_wp2
          go_ret3
          unfold AllR5
          rw [HV.out, HERR.out]
          have hx := Ext.alloc w2 (.cells #[.int .i64 z.kind, .slice to z.n.length tc, .string (str z.text)] 77)
          refine ⟨_, _, rfl, ?_, ?_, HX3.out.trans hx⟩
          · simpa using HO3.out.ext hx
          · simpa using HI3.out.ext hx
      · have he' : (er != 0) = true := by simp [her]
        have herr := rall_bad (k := k) hne (by rw [hfr]; exact her)
        rw [hfr] at herr
        have HERR := hid herr
        have HO1 := hid (HO.out.ext hw1)
        have HI1 := hid (HI.out.ext hw1)
        have HX1 := hid hE1
        clear hfr herr hr hw1 hne her hE1
        go_wp2
        go_ret3
        unfold AllR5
        rw [HV.out, HERR.out]
        have hx := Ext.alloc w1 (.cells #[.int .u8 (y.kind.toNat : Int), .slice so y.body.length sc] 114)
        refine ⟨_, _, rfl, ?_, ?_, HX1.out.trans hx⟩
        · simpa using HO1.out.ext hx
        · simpa using HI1.out.ext hx
    · obtain rfl : k = b.length := by omega
      have HV' : rall 0 b = (m, es, 0) := by rw [HV.out, List.drop_of_length_le (Nat.le_refl _), rall_nil]; simp
      have HV2 := hid HV'
      clear HV'
      go_wp2
      go_ret3
      unfold AllR5
      rw [HV2.out]
      exact ⟨_, _, rfl, HO.out, HI.out, HE.out⟩
end Go.Proofs.YtijpokajhjhllaaGreatDoor

