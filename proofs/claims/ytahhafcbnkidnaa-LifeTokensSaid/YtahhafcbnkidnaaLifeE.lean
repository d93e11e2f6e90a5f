/- The statements of layer 9: LifeTells. -/
import Derived.Test.YtahhafcbnkidnaaLifeD
namespace Go.Proofs.Ytahhafcbnkidnaa
open Go.RowKit Go.Tum

/-- Four cells from the block's first on. -/
def At4 (w : World) (b : Nat) (p q r s : Value) : Prop := w.cell? ⟨b, 0, none⟩ = some p ∧ w.cell? ⟨b, 1, none⟩ = some q ∧ w.cell? ⟨b, 2, none⟩ = some r ∧ w.cell? ⟨b, 3, none⟩ = some s
theorem At4.ext {w w' : World} {b : Nat} {p q r s : Value} (h : At4 w b p q r s) (k : Ext w w') : At4 w' b p q r s := ⟨k.cell h.1, k.cell h.2.1, k.cell h.2.2.1, k.cell h.2.2.2⟩
theorem At4.new (w : World) (ty : TypeId) (p q r s : Value) : At4 (w.alloc (.cells #[p, q, r, s] ty)) w.heap.size p q r s := by
  have e := heap_alloc_new w (.cells #[p, q, r, s] ty)
  refine ⟨?_, ?_, ?_, ?_⟩ <;> rw [cell_of_row _ _ _ _ _ _ e] <;> rfl

set_option maxRecDepth 100000 in
set_option maxHeartbeats 2000000 in
theorem lifeTells_law (x : L) (a : Ac) (most : Int) (h1 : U64 a.now) (h2 : U64 a.n) (w : World) :
    Calls Try.prog 3 #[lv x, av a, .int .i64 most] w fun e w' => e = .returned (.bool true) ∧ Ext w w' := by
  go_enter Try.func3, Try.ntmps3
  go_wp2_with fail
  refine (awake_any _).mono ?_
  rintro e w1 ⟨rfl, hw1⟩
  have hE1 : Ext w w1 := ((Ext.alloc w (.cells #[.int .i64 x.s, .int .i64 x.c, .int .u64 x.d, .int .u64 x.t] 24)).trans (Ext.alloc _ (.cells #[.int .i64 a.k, .int .u64 a.tok, .int .u64 a.now, .int .u64 a.n] 26))).trans hw1
  have C1 : Hid (At4 w1 w.heap.size (.int .i64 x.s) (.int .i64 x.c) (.int .u64 x.d) (.int .u64 x.t)) := hid (((At4.new w 24 _ _ _ _).ext (Ext.alloc _ _)).ext hw1)
  have D1 : Hid (At4 w1 (w.heap.size + 1) (.int .i64 a.k) (.int .u64 a.tok) (.int .u64 a.now) (.int .u64 a.n)) := hid (by
    have := (At4.new (w.alloc (.cells #[.int .i64 x.s, .int .i64 x.c, .int .u64 x.d, .int .u64 x.t] 24)) 26 (.int .i64 a.k) (.int .u64 a.tok) (.int .u64 a.now) (.int .u64 a.n)).ext hw1
    simpa using this)
  clear hw1
  obtain ⟨r, re, hd⟩ : ∃ r re, doL x a most = (r, re) := ⟨_, _, rfl⟩
  obtain ⟨q, qe, hq⟩ : ∃ q qe, waitL l0 a.now a.n = (q, qe) := ⟨_, _, rfl⟩
  have HD := hid hd
  have HQ := hid hq
  clear hd hq
  obtain ⟨c0, c1, c2, c3⟩ := C1.out
  obtain ⟨d0, d1, d2, d3⟩ := D1.out
  go_wp2_with fail
  refine (do_any x a most h1 h2 _).mono ?_
  rintro e w2 ⟨rfl, hw2⟩
  rw [HD.out]
  have hx : Ext w1 (w2.alloc (.cells #[.int .i64 r.s, .int .i64 r.c, .int .u64 r.d, .int .u64 r.t] 24)) := hw2.trans (Ext.alloc _ _)
  have hE2 := hE1.trans hx
  have C2 := hid (C1.out.ext hx)
  have D2 := hid (D1.out.ext hx)
  have F2 := hid (At4.new w2 24 (.int .i64 r.s) (.int .i64 r.c) (.int .u64 r.d) (.int .u64 r.t))
  clear c0 c1 c2 c3 d0 d1 d2 d3 C1 D1 hx hw2 hE1
  obtain ⟨c0, c1, c2, c3⟩ := C2.out
  obtain ⟨d0, d1, d2, d3⟩ := D2.out
  go_wp2_with fail
  generalize w2.heap.size = b7 at *
  generalize w2.alloc (.cells #[.int .i64 r.s, .int .i64 r.c, .int .u64 r.d, .int .u64 r.t] 24) = W2 at *
  clear c0 c1 c2 c3 d0 d1 d2 d3
  refine (own_any x a most h1 h2 _).mono ?_
  rintro e w3 ⟨rfl, hw3⟩
  rw [HD.out]
  have hx : Ext W2 (w3.alloc (.cells #[.int .i64 r.s, .int .i64 r.c, .int .u64 r.d, .int .u64 r.t] 31)) := hw3.trans (Ext.alloc _ _)
  have hE3 := hE2.trans hx
  have D3 := hid (D2.out.ext hx)
  have F3 := hid (F2.out.ext hx)
  have G3 := hid (At4.new w3 31 (.int .i64 r.s) (.int .i64 r.c) (.int .u64 r.d) (.int .u64 r.t))
  clear C2 D2 F2 hx hw3 hE2
  obtain ⟨d0, d1, d2, d3⟩ := D3.out
  go_wp2_with fail
  generalize w3.heap.size = b9 at *
  generalize w3.alloc (.cells #[.int .i64 r.s, .int .i64 r.c, .int .u64 r.d, .int .u64 r.t] 31) = W3 at *
  clear d0 d1 d2 d3
  refine (born_any a.now a.n h1 h2 _).mono ?_
  rintro e w4 ⟨rfl, hw4⟩
  rw [HQ.out]
  have hx : Ext W3 (w4.alloc (.cells #[.int .i64 q.s, .int .i64 q.c, .int .u64 q.d, .int .u64 q.t] 24)) := hw4.trans (Ext.alloc _ _)
  have hE4 := hE3.trans hx
  have D4 := hid (D3.out.ext hx)
  have F4 := hid (F3.out.ext hx)
  have G4 := hid (G3.out.ext hx)
  have K4 := hid (At4.new w4 24 (.int .i64 q.s) (.int .i64 q.c) (.int .u64 q.d) (.int .u64 q.t))
  clear D3 F3 G3 hx hw4 hE3
  obtain ⟨d0, d1, d2, d3⟩ := D4.out
  go_wp2_with fail
  generalize w4.heap.size = b11 at *
  generalize w4.alloc (.cells #[.int .i64 q.s, .int .i64 q.c, .int .u64 q.d, .int .u64 q.t] 24) = W4 at *
  clear d0 d1 d2 d3
  refine (rborn_any a.now a.n h1 h2 _).mono ?_
  rintro e w5 ⟨rfl, hw5⟩
  rw [HQ.out]
  have hx : Ext W4 (w5.alloc (.cells #[.int .i64 q.s, .int .i64 q.c, .int .u64 q.d, .int .u64 q.t] 31)) := hw5.trans (Ext.alloc _ _)
  have hE5 := hE4.trans hx
  have F5 := hid (F4.out.ext hx)
  have G5 := hid (G4.out.ext hx)
  have K5 := hid (K4.out.ext hx)
  clear D4 F4 G4 K4 hx hw5 hE4
  obtain ⟨f0, f1, f2, f3⟩ := F5.out
  obtain ⟨g0, g1, g2, g3⟩ := G5.out
  obtain ⟨k0, k1, k2, k3⟩ := K5.out
  go_wp2_with fail
  go_ret
  exact ⟨rfl, hE5⟩
end Go.Proofs.Ytahhafcbnkidnaa
