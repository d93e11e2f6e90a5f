/- The end of a frame where no argument lies in memory: what is below the heap's size at the call is enough. -/
import Derived.Below
import Derived.ChangeSame
namespace Go.Tum
open Go Go.RowKit Go.WideShapes Go.ChangeShapes
theorem post_flat {H : Type} {enc : TypeId × Value → H} {P : Program} {f : Func} {s : ChangeSpec} {x y z again : Bool} {W W' : World} {args : Array Value} {v : Value} {ds gs : List (DataW H)}
    (hW : DataW.Whole enc P f.params.toList s.vars x W args.toList ds gs [])
    (hr : ∀ (b : Nat) (sp : Nat → Bool) (hd : Bool), DataW.TrodAll enc P W' b sp hd f.resultTypes.toList (v.resultList f.resultTypes.size) (s.fn H (ds ++ gs)).results [])
    (ha : ∀ sp : Nat → Bool, DataW.TrodAll enc P W' 0 sp true f.params.toList args.toList (s.fn H (ds ++ gs)).args [])
    (hv : ∀ sp : Nat → Bool, DataW.TrodVars enc P W' sp s.vars (s.fn H (ds ++ gs)).vars [])
    (hb : Below W.heap.size W W')
    (hk : ∀ (j : Nat) (t : TypeId) (r : Value), f.resultTypes[j]? = some t → (v.resultList f.resultTypes.size)[j]? = some r → Value.okWide P W' .any 0 t r) :
    s.post enc P f x y z again W args v W' := by
  refine ⟨ds, gs, [], [], [], [], hW, hr _ _ _, ha _, hv _, World.keptBut_mono (fun p h => absurd h (by simp)) (hb.frame (fun _ => False)), fun _ => ?_⟩
  refine ⟨hk, _, _, ([] ++ []) ++ [], ⟨[] ++ [], [], trodAll_append (ha _) (hr _ _ _), hv _, rfl, ?_, ?_⟩, ?_⟩
  · intro b off h; simp at h
  · intro _; simp
  · intro p h; simp at h
end Go.Tum
