/- The index's laws: answers that are the same. -/
import Derived.Test.YtcfgafododiioaaGreatDoorC1
import Derived.Test.YtcfgafododiioaaGreatDoorC2
import Derived.Test.YtcfgafododiioaaGreatDoorC3
import Derived.Test.YtcfgafododiioaaGreatDoorC4
import Derived.Test.YtcfgafododiioaaGreatDoorC5
import Derived.Test.YtcfgafododiioaaGreatDoorC6
import Derived.Test.YtcfgafododiioaaGreatDoorC7
import Derived.Test.YtcfgafododiioaaGreatDoorC8
import Derived.Test.YtcfgafododiioaaGreatDoorC9
import Derived.Test.YtcfgafododiioaaGreatDoorC10
import Derived.Test.YtcfgafododiioaaGreatDoorC11
import Derived.Test.YtcfgafododiioaaGreatDoorC12
import Derived.Test.YtcfgafododiioaaGreatDoorC13
import Derived.Test.YtcfgafododiioaaGreatDoorC14
import Derived.Test.YtcfgafododiioaaGreatDoorC15
import Derived.Test.YtcfgafododiioaaGreatDoorC16
import Derived.Test.YtcfgafododiioaaGreatDoorC17
import Derived.Test.YtcfgafododiioaaGreatDoorC18
import Derived.Test.YtcfgafododiioaaGreatDoorC19
import Derived.Test.YtcfgafododiioaaGreatDoorC20
import Derived.Test.YtcfgafododiioaaGreatDoorC21
import Derived.Test.YtcfgafododiioaaGreatDoorC22
import Derived.Test.YtcfgafododiioaaGreatDoorC23
import Derived.Test.YtcfgafododiioaaGreatDoorC24
import Derived.Test.YtcfgafododiioaaGreatDoorC25
import Derived.Test.YtcfgafododiioaaGreatDoorC26
import Derived.Test.YtcfgafododiioaaGreatDoorC27
import Derived.Test.YtcfgafododiioaaGreatDoorC28
import Derived.Test.YtcfgafododiioaaGreatDoorC29
import Derived.Test.YtcfgafododiioaaGreatDoorC30
import Derived.Test.YtcfgafododiioaaGreatDoorC31
import Derived.Test.YtcfgafododiioaaGreatDoorC32
import Derived.Test.YtcfgafododiioaaGreatDoorC33
import Derived.Test.YtcfgafododiioaaGreatDoorC34
import Derived.Test.YtcfgafododiioaaGreatDoorC35
import Derived.Test.YtcfgafododiioaaGreatDoorC36
import Derived.Test.YtcfgafododiioaaGreatDoorC37
import Derived.Test.YtcfgafododiioaaGreatDoorC38
import Derived.Test.YtcfgafododiioaaGreatDoorC39
import Derived.Test.YtcfgafododiioaaGreatDoorC40
import Derived.Test.YtcfgafododiioaaGreatDoorC41
import Derived.Test.YtcfgafododiioaaGreatDoorC42
import Derived.Test.YtcfgafododiioaaGreatDoorC43
import Derived.Test.YtcfgafododiioaaGreatDoorC44
import Derived.Test.YtcfgafododiioaaGreatDoorC45
set_option linter.unusedSimpArgs false
set_option linter.unusedVariables false
set_option maxRecDepth 100000
namespace Go.Proofs.YtcfgafododiioaaGreatDoor
open Go Go.RowKit Go.Tum Go.ChangeMaps Go.Sort
open Go.ParB (upd Lof)
open Go.ParE (putS slotsR slots Closed)

set_option maxHeartbeats 2000000 in
theorem isame_eq {w : World} {a : An} {u v : Value} (hu : Vec uv w u a.ids) (hv : Vec uv w v a.ids) :
    Calls Tryz.prog 18 #[anV a u, anV a v] w fun e w' => e = .returned (.bool true) ∧ Ext w w' := by
  obtain ⟨E, Id, ⟨id, la, st, ct, du, tk, tu, sg, ps, sz⟩, Many, Is, Ids⟩ := a
  obtain ⟨W1, hW1⟩ : ∃ W, w.alloc (.cells #[.int .i64 E, vU Id, vU id, .int .i64 la, .int .i64 st, .int .i64 ct, vU du, vU tk, vU tu, vU sg, vU ps, .int .i64 sz, .int .i64 Many, .bool Is, u] 49 (0, 0)) = W := ⟨_, rfl⟩
  obtain ⟨W2, hW2⟩ : ∃ W, W1.alloc (.cells #[.int .i64 E, vU Id, vU id, .int .i64 la, .int .i64 st, .int .i64 ct, vU du, vU tk, vU tu, vU sg, vU ps, .int .i64 sz, .int .i64 Many, .bool Is, v] 49 (0, 0)) = W := ⟨_, rfl⟩
  have e1 : Ext w W1 := by rw [← hW1]; exact Ext.alloc _ _
  have e2 : Ext W1 W2 := by rw [← hW2]; exact Ext.alloc _ _
  have b1 := e2.obj (show W1.heap[w.heap.size]? = some (.cells #[.int .i64 E, vU Id, vU id, .int .i64 la, .int .i64 st, .int .i64 ct, vU du, vU tk, vU tu, vU sg, vU ps, .int .i64 sz, .int .i64 Many, .bool Is, u] 49 (0, 0)) by rw [← hW1]; exact heap_alloc_new _ _)
  have b2 : W2.heap[W1.heap.size]? = some (.cells #[.int .i64 E, vU Id, vU id, .int .i64 la, .int .i64 st, .int .i64 ct, vU du, vU tk, vU tu, vU sg, vU ps, .int .i64 sz, .int .i64 Many, .bool Is, v] 49 (0, 0)) := by rw [← hW2]; exact heap_alloc_new _ _
  obtain ⟨x0, x1, x2, x3, x4, x5, x6, x7, x8, x9, x10, x11, x12, x13, x14, -⟩ := blk15 b1
  obtain ⟨y0, y1, y2, y3, y4, y5, y6, y7, y8, y9, y10, y11, y12, y13, y14, -⟩ := blk15 b2
  have HX := hid (e1.trans e2)
  have HU := hid (hu.ext (e1.trans e2))
  have HV := hid (hv.ext (e1.trans e2))
  clear e1 e2 b1 b2 hu hv
  go_enter Tryz.func18, Tryz.ntmps18
  go_wp2_with fail
  clear hW1 hW2 x0 x1 x2 x3 x4 x5 x6 x7 x8 x9 x10 x11 x12 x13 x14 y0 y1 y2 y3 y4 y5 y6 y7 y8 y9 y10 y11 y12 y13 y14
  refine (rsame64_any u v Ids Ids W2 HU.out HV.out).mono ?_
  rintro e w3 ⟨rfl, hx⟩
  have hb : (Ids == Ids) = true := by simp
  go_wp2
  go_returns
  exact ⟨rfl, HX.out.trans hx⟩
end Go.Proofs.YtcfgafododiioaaGreatDoor
