/- Map entries, as a tuple assignment writes them. -/
import Derived.Test.YtkagacopgjcdnaaDueM
import Derived.WideKeyEntry
set_option linter.unusedSimpArgs false
set_option linter.unusedVariables false
namespace Go.Proofs.Ytkagacopgjcdnaa
open Go Go.RowKit Go.Tum Go.ChangeMaps Go.ChangeShapes Go.WideShapes Go.MapKept

theorem set_same {es : Array Obj} {m : Nat} {o : Obj} (h : es[m]? = some o) : es.setIfInBounds m o = es := by
  apply Array.ext_getElem?
  intro i
  by_cases hi : m = i
  · subst hi
    rw [h, Array.getElem?_setIfInBounds]
    have := (Array.getElem?_eq_some_iff.1 h).1
    simp [this]
  · rw [Array.getElem?_setIfInBounds_ne hi]
theorem modify_same {α : Type} {es : Array α} {j : Nat} {e : α} {f : α → α} (h : es[j]? = some e) (hf : f e = e) : es.modify j f = es := by
  apply Array.ext_getElem?
  intro i
  rw [Array.getElem?_modify]
  split
  · rename_i hji
    subst hji
    rw [h]; simp [hf]
  · rfl
theorem modify_congr {α : Type} {es : Array α} {j : Nat} {e : α} {f g : α → α} (h : es[j]? = some e) (hf : f e = g e) : es.modify j f = es.modify j g := by
  apply Array.ext_getElem?
  intro i
  rw [Array.getElem?_modify, Array.getElem?_modify]
  split
  · rename_i hji
    subst hji
    rw [h]; simp [hf]
  · rfl
theorem MI.fr0 {k : IntKind} {w w' : World} {m n : Nat} {F : UInt64 → Option Int} (h : MI k w m n F) (f : w'.heap[m]? = w.heap[m]?) : MI k w' m n F := by
  obtain ⟨D, ⟨es, c, h1, h4, h5, h6⟩, h2, h3⟩ := h
  exact ⟨D, ⟨es, c, f.trans h1, h4, h5, h6⟩, h2, h3⟩
theorem MI.entry {k : IntKind} {mt vt : TypeId} {w : World} {m n : Nat} {F : UInt64 → Option Int} (h : MI k w m n F) (ht : Try.prog.underlying mt = some (.map 23 vt)) (hz : (zeroValue vt).run Try.prog w = .ok (.int k 0) w)
    (hl : n ≤ 1048576) {x : UInt64} {i0 : Int} (hx : F x = some i0) :
    ∃ st : Nat, (∀ w2 : World, w2.heap[m]? = w.heap[m]? → (Instr.mapEntry mt (.map (some m)) (vU x)).run Try.prog w2 = .ok (.tuple #[.int k i0, .int .i64 (st : Int)]) w2) ∧
      ∀ i : Int, ∃ O : Obj, (∀ w2 : World, w2.heap[m]? = w.heap[m]? → (Instr.entryStore mt (.map (some m)) (.int .i64 (st : Int)) (.int k i)).run Try.prog w2 = .ok () (setBlock w2 m O)) ∧
        ∀ w3 : World, w3.heap[m]? = some O → MI k w3 m n (setF F x i) := by
  have h0 := h
  have hlook := h.look_ok ht hz x
  obtain ⟨D, ⟨es, clock, hb, Ft, hs, hD⟩, h2, h3⟩ := h
  rw [hx] at hlook
  have hck := fun (u : World) em => keyed64.check u em (kU_key x)
  rcases keyed64.find w (kU_key x) es.toList Ft.keys with ⟨hf, hne⟩ | ⟨j, e0, hf, hj, hk⟩
  · exfalso
    simp [Instr.lookup, run_underlying ht, MapKept.run_getObj_map hb, hck, hf, hz, Result.andThen] at hlook
  · have hj' : es[j]? = some e0 := by simpa using hj
    have hv : e0.val = .int k i0 := by
      simp [Instr.lookup, run_underlying ht, MapKept.run_getObj_map hb, hck, hf, hz, Result.andThen] at hlook
      exact hlook
    have hb2 : es.toList.map (·.born) |>.Nodup := Ft.stamped.2.1
    have hp : es.toList.Pairwise (fun x y => x.key ≠ y.key) := ((stamped_iff es clock).1 Ft.stamped).2.2
    have hpj := List.pairwise_iff_getElem.1 hp
    obtain ⟨l1, q1⟩ := List.getElem?_eq_some_iff.1 hj
    have hfind : ∀ u : World, (Instr.findKey 23 (vU x) es.toList).run Try.prog u = .ok (some (j, e0.val)) u := by
      intro u
      rcases keyed64.find u (kU_key x) es.toList Ft.keys with ⟨-, hne⟩ | ⟨j2, e2, hf2, hj2, hk2⟩
      · exact absurd hk (hne e0 (List.mem_of_getElem? hj))
      · obtain ⟨l2, q2⟩ := List.getElem?_eq_some_iff.1 hj2
        have hjj : j2 = j := by
          rcases Nat.lt_trichotomy j2 j with h | h | h
          · exact absurd (by rw [q1, q2, hk, hk2]) (hpj j2 j l2 l1 h)
          · exact h
          · exact absurd (by rw [q1, q2, hk, hk2]) (hpj j j2 l1 l2 h)
        subst hjj
        have hee : e2 = e0 := by rw [← q1, ← q2]
        rw [hf2, hee]
    have hidx : es.findIdx? (fun e => ((e.born : Nat) : Int) == ((e0.born : Nat) : Int)) = some j := by
      rw [WideElems.findIdx_arr]
      exact WideElems.findIdx_born hb2 hj
    have hs1 : es.modify j (fun e => { e with key := vU x }) = es := modify_same hj' (by rw [← hk])
    refine ⟨e0.born, fun w2 hw2 => ?_, fun i => ⟨.map (es.modify j (fun e => { key := e.key, val := .int k i, born := e.born })) clock, fun w2 hw2 => ?_, fun w3 hw3 => ?_⟩⟩
    · have hb3 := hw2.trans hb
      simp [Instr.mapEntry, run_underlying ht, MapKept.run_getObj_map hb3, hck, hfind, hj', hk, keyed64.stays w2 (kU_key x), hs1, MapKept.run_setObj_map _ hb3, Result.andThen, goInt, hv, set_same hb3]
    · have hb3 := hw2.trans hb
      simp [Instr.entryStore, MapKept.run_getObj_map hb3, hidx, asInt, asIntOf, goInt, MapKept.run_setObj_map _ hb3, Result.andThen, setBlock]
    · obtain ⟨w4, r1, r2, r3⟩ := MI.store h0 ht hl x i
      rw [hx] at r2
      have hm : (Instr.mapUpdate mt (.map (some m)) (vU x) (.int k i)).run Try.prog w = .ok () (setBlock w m (.map (es.modify j (fun e => { key := e.key, val := .int k i, born := e.born })) clock)) := by
        simp [Instr.mapUpdate, run_underlying ht, MapKept.run_getObj_map hb, hck, hfind, hj', hk, keyed64.stays w (kU_key x), MapKept.run_setObj_map _ hb, Result.andThen, setBlock]
        rw [modify_congr (f := fun e => { key := e.key, val := .int k i, born := e.born }) (g := fun e => { key := vU x, val := .int k i, born := e.born }) hj' (by rw [← hk])]
      rw [r1] at hm
      have he : w4 = setBlock w m (.map (es.modify j (fun e => { key := e.key, val := .int k i, born := e.born })) clock) := by simpa using hm
      refine MI.fr0 (w := w4) (by simpa using r2) ?_
      rw [hw3, he]
      exact (heap_setBlock_same hb _).symm
end Go.Proofs.Ytkagacopgjcdnaa
