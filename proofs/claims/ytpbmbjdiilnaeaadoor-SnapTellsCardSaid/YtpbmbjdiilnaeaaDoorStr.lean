/- 'append(b, s...)': bytes of a text behind a row of bytes of the call's own. -/
import Derived.Test.YtpbmbjdiilnaeaaDoorLib
set_option maxRecDepth 100000
namespace Go.Tum
open Go.RowKit

theorem str_bytes (l : List UInt8) : (((str l).extract 0 l.length).data.map fun b => Value.int .u8 (b.toNat : Int)) = (l.map bv).toArray := by
  have h : (str l).extract 0 l.length = str l := by
    apply ByteArray.ext
    simp [str, ByteArray.data_extract]
  rw [h]
  apply Array.ext'
  simp [str]
theorem run_firstCells_str {P : Program} (w : World) (l : List UInt8) : (Builtin.firstCells 1 l.length (.string (str l))).run P w = .ok (l.map bv).toArray w := by
  simp only [Builtin.firstCells, Sem.run_pure]
  rw [str_bytes]

section
variable {P : Program}
theorem run_append_str (base t st ty e : Nat) (ht : P.underlying t = some (.slice e)) (hst : P.underlying st = some .string) (hi : (P.info? e).map (fun i => (i.zero, i.size, i.bytes)) = some (some (.int .u8 0), 1, 1))
    {w : World} {v : Value} {l1 l2 : List UInt8} (hown : Own w base e v l1) (hb : l1.length + l2.length ≤ 140737488355328) (hbase : base ≤ w.heap.size) :
    ∃ ao cap w', (Builtin.append_ #[t, st] ty #[v, .string (str l2)]).run P w = .ok (.slice ao (l1.length + l2.length) cap) w' ∧ Own w' base e (.slice ao (l1.length + l2.length) cap) (l1 ++ l2) ∧ Below base w w' := by
  obtain ⟨i, hi1, hz, hs, hby⟩ := info_parts hi
  have hf := fun w => run_firstCells_str (P := P) w l2
  have hsz := str_size l2
  have h63 : ¬ (9223372036854775807 < ((l1.length : Int) + (l2.length : Int))) := by omega
  have grown : ∀ old, (w.drew.alloc (.cells ((l1.map bv).toArray ++ (l2.map bv).toArray ++ Builtin.zeroCells (Value.int .u8 0).cells (grownCap w (l1.length + l2.length) old e - (l1.length + l2.length))) e)).ownsRow base e 1
      (.slice (some ⟨w.heap.size, 0, none⟩) (l1.length + l2.length) (grownCap w (l1.length + l2.length) old e)) (l1.length + l2.length) ((l1 ++ l2).map bv) := by
    intro old
    have hge := grownCap_ge w (l1.length + l2.length) old e
    refine ⟨by simp, .inr ⟨w.heap.size, _, _, rfl, hbase, heap_alloc_new w.drew _, hge, grownCap_le_maxLen w _ old e (by simp [maxLen]; omega), ?_, ?_⟩⟩
    · simp [size_zeroCells, Value.cells]; omega
    · simp only [Array.toList_append, ← List.map_append, Nat.mul_one]
      have : ((l1 ++ l2).map bv).length = l1.length + l2.length := by simp
      rw [← this, List.take_left]
  rcases hown.2 with ⟨rfl, h0⟩ | ⟨g, cap, cur, rfl, hbg, hg, hnc, hcm, hcs, htake⟩
  · have hl1 : l1 = [] := List.length_eq_zero_iff.1 h0
    subst hl1
    by_cases hl2 : l2 = []
    · subst hl2
      refine ⟨none, 0, w, ?_, hown, Below.refl _ _⟩
      simp [Builtin.append_, run_underlying ht, run_underlying hst, sizeOf, typeInfo, hi1, Builtin.lenOf, str_size, Builtin.firstCells, Sem.run_pure]
    · have hp := List.length_pos_iff.2 hl2
      have hr := run_append_nil_string (P := P) w t st ty e i (.int .u8 0) ht hst hi1 hz (str l2) (by rw [hsz]; exact hp) (by rw [hsz]; omega) (by rw [hsz, hby]; omega)
      rw [hsz] at hr
      have hg := grown 0
      simp only [List.length_nil, Nat.zero_add, List.map_nil, List.nil_append, List.append_toArray] at hg hr ⊢
      refine ⟨_, _, _, hr, ?_, ((Below.refl _ _).drew).alloc hbase _⟩
      have e1 : (str l2).data.map (fun b => Value.int .u8 (b.toNat : Int)) = (l2.map bv).toArray := by
        apply Array.ext'
        simp [str]
      rw [e1]
      unfold Own
      simpa using hg
  · have hadd : (⟨g, 0, none⟩ : Addr).add (l1.length * 1) = ⟨g, l1.length * 1, none⟩ := by unfold Addr.add; split <;> simp_all
    by_cases hroom : l1.length + l2.length ≤ cap
    · have hst2 := run_storeCells_at P g (l1.length * 1) e (l2.map bv) 0 cur w hg (by simp [hcs]; omega) (bv_one _)
      simp only [Nat.add_zero] at hst2
      refine ⟨some ⟨g, 0, none⟩, cap, w.setRow g (cur.toList.take (l1.length * 1) ++ l2.map bv ++ cur.toList.drop (l1.length * 1 + (l2.map bv).length)).toArray, ?_, ?_, ?_⟩
      rotate_left
      · unfold Own
        rw [show (l1 ++ l2).length = l1.length + l2.length from List.length_append]
        refine ⟨by simp, .inr ⟨g, cap, _, rfl, hbg, setRow_heap w g cur (cur.toList.take (l1.length * 1) ++ l2.map bv ++ cur.toList.drop (l1.length * 1 + (l2.map bv).length)).toArray e _ hg, hroom, hcm, ?_, ?_⟩⟩
        · simp only [List.size_toArray, List.length_append, List.length_take, List.length_drop, Array.length_toList, List.length_map]
          omega
        · have h1 : cur.toList.take (l1.length * 1) = l1.map bv := htake
          rw [h1]
          show (l1.map bv ++ l2.map bv ++ _).take ((l1.length + l2.length) * 1) = (l1 ++ l2).map bv
          have : (l1.map bv ++ l2.map bv).length = (l1.length + l2.length) * 1 := by simp
          rw [← this, List.take_left, List.map_append]
      · exact ⟨rfl, rfl, rfl, by simp, fun k hk => setRow_other w g k _ (by omega)⟩
      · simp only [Nat.mul_one] at hadd hst2
        simp [Builtin.append_, run_underlying ht, run_underlying hst, sizeOf, typeInfo, hi1, Builtin.lenOf, hsz, hs, hroom, hf, hadd, hst2]
    · have holds : ∀ j u, (l1.map bv)[j]? = some u → w.cell? ((⟨g, 0, none⟩ : Addr).add j) = some u := @World.ownsRow.cells w base e 1 _ _ _ hown g rfl
      have hfo := run_firstCells_some (P := P) w.drew 1 l1.length ⟨g, 0, none⟩ l1.length cap (l1.map bv) (by simp) (by simpa using holds)
      have hfit := growslice_fits (need := l1.length + l2.length) (old := cap) (bytes := 1) (by omega) (by omega)
      have h48 : ¬ (281474976710656 < Builtin.nextslicecap (l1.length + l2.length) cap) := by omega
      refine ⟨some ⟨w.heap.size, 0, none⟩, grownCap w (l1.length + l2.length) cap e, _, ?_, by unfold Own; simpa using grown cap, ((Below.refl _ _).drew).alloc hbase _⟩
      simp [Builtin.append_, run_underlying ht, run_underlying hst, sizeOf, typeInfo, zeroValue, hi1, hz, hs, hby, Builtin.lenOf, hsz, hroom, h63, h48, Question.forced, hf, hfo, newRow, grownCap]
      rw [← List.append_toArray, Array.append_assoc]
end
end Go.Tum
