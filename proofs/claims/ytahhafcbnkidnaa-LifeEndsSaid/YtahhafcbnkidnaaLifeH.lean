/- A life that is lived, act by act. -/
import Derived.Test.YtahhafcbnkidnaaLifeE
import Derived.Test.YtahhafcbnkidnaaOpen
import Derived.Lib.SmallJoins
namespace Go.Proofs.Ytahhafcbnkidnaa
open Go.RowKit Go.Tum

abbrev acells (a : Ac) : List Value := [.int .i64 a.k, .int .u64 a.tok, .int .u64 a.now, .int .u64 a.n]

theorem At4.mk' {w : World} {b : Nat} {p q r s : Value} {ty : TypeId} {fr : Nat × Nat} (e : w.heap[b]? = some (.cells #[p, q, r, s] ty fr)) : At4 w b p q r s := by
  refine ⟨?_, ?_, ?_, ?_⟩ <;> rw [cell_of_row _ _ _ _ _ _ e] <;> rfl

set_option maxRecDepth 100000 in
set_option maxHeartbeats 2000000 in
theorem lived_any (K : Nat) (hK : ∀ (args : Array Value) (w : World), Sem.run Try.prog (callFunc K args) w = .ok (.enter K args) w) (caps : Array Value) (w0 : World) (INV : L → Prop) (l : List Ac) (most : Int) (hl : ∀ a ∈ l, U64 a.now ∧ U64 a.n) (h0 : INV ⟨1, 0, 0, 0⟩)
    (hstep : ∀ (x : L) (a : Ac), INV x → (doL x a most).2 = 0 → INV (doL x a most).1)
    (hf : ∀ (x : L) (a : Ac) (w : World), INV x → Ext w0 w → Calls Try.prog K (#[lv x, lv (doL x a most).1, av a, .int .i64 (doL x a most).2] ++ caps) w fun e w' => e = .returned (.bool true) ∧ Ext w w')
    (v : Value) (w : World) (hw : Ext w0 w) (hv : RowsOf w 4 v acells l) (hlen : l.length ≤ 300) :
    Calls Try.prog 13 #[v, .int .i64 most, .func (.func K) #[] caps] w fun e w' => e = .returned (.bool true) ∧ Ext w w' := by
  obtain ⟨ao, cap, rfl, hc1, hc2, hc3, hcell⟩ := hv.open
  have HC := hid hcell
  have HF := hid hf
  have HS := hid hstep
  have HL := hid hl
  have H0 := hid h0
  clear hcell hf hstep hl h0 hv
  go_enter Try.func13, Try.ntmps13
  go_wp2_with fail
  refine (born_any 0 0 ⟨by omega, by omega⟩ ⟨by omega, by omega⟩ _).mono ?_
  rintro e w1 ⟨rfl, hw1⟩
  rw [show waitL l0 0 0 = (⟨1, 0, 0, 0⟩, 0) by decide +kernel]
  go_wp2_with fail
  have hsz1 := hw1.size
  have hE0 : Ext w (w1.alloc (.cells #[.int .i64 1, .int .i64 0, .int .u64 0, .int .u64 0] 24)) := hw1.trans (Ext.alloc _ _)
  have B0 := hid (heap_alloc_new w1 (.cells #[.int .i64 1, .int .i64 0, .int .u64 0, .int .u64 0] 24))
  clear hw1
  generalize hb1 : w1.heap.size = b1 at *
  clear hb1
  generalize w1.alloc (.cells #[.int .i64 1, .int .i64 0, .int .u64 0, .int .u64 0] 24) = W0 at *
  go_loopw [21] (fun i wr => ∃ (k : Nat) (x : L), k ≤ l.length ∧ i = .int .i64 k ∧ Hid (INV x) ∧ Hid (wr.heap[b1]? = some (.cells #[.int .i64 x.s, .int .i64 x.c, .int .u64 x.d, .int .u64 x.t] 24)) ∧ Hid (Ext w wr)) (fun i _ => l.length - (intOf i).toNat)
  case atStart => exact ⟨0, ⟨1, 0, 0, 0⟩, by omega, rfl, H0, B0, hE0⟩
  case round =>
    obtain ⟨k, x, hk, rfl, HI, HB, HE⟩ := hrel
    by_cases hlt : k < l.length
    · obtain ⟨a, rfl⟩ := hc3 (by omega)
      have c0 := cell_first (HE.out.cell (HC.out a rfl k hlt 0 _ rfl))
      have c1 := cell_next (HE.out.cell (HC.out a rfl k hlt 1 _ rfl)) (by decide)
      have c2 := cell_next (HE.out.cell (HC.out a rfl k hlt 2 _ rfl)) (by decide)
      have c3 := cell_next (HE.out.cell (HC.out a rfl k hlt 3 _ rfl)) (by decide)
      have D : ∀ (j : Nat) (u : Value), #[Value.int .i64 x.s, .int .i64 x.c, .int .u64 x.d, .int .u64 x.t][j]? = some u → ∀ o : Obj, (wr.alloc o).cell? ⟨b1, j, none⟩ = some u := fun j u hu o =>
        (Ext.alloc wr o).cell (by rw [cell_of_row wr b1 j _ _ _ HB.out]; exact hu)
      have d0 := D 0 _ rfl
      have d1 := D 1 _ rfl
      have d2 := D 2 _ rfl
      have d3 := D 3 _ rfl
      clear D
      go_wp2_with fail
      refine (do_any x l[k] most (HL.out _ (List.getElem_mem hlt)).1 (HL.out _ (List.getElem_mem hlt)).2 _).mono ?_
      rintro e w2 ⟨rfl, hw2⟩
      obtain ⟨r, re, hd⟩ : ∃ r re, doL x l[k] most = (r, re) := ⟨_, _, rfl⟩
      have HD := hid hd
      clear hd
      rw [HD.out]
      have hE2 : Ext wr w2 := (Ext.alloc _ _).trans hw2
      have D2 := hid ((At4.new wr 26 (.int .i64 l[k].k) (.int .u64 l[k].tok) (.int .u64 l[k].now) (.int .u64 l[k].n)).ext (hw2.trans (Ext.alloc _ (.cells #[.int .i64 r.s, .int .i64 r.c, .int .u64 r.d, .int .u64 r.t] 24))))
      have B2 : Hid (At4 _ b1 (.int .i64 x.s) (.int .i64 x.c) (.int .u64 x.d) (.int .u64 x.t)) := hid (((At4.mk' HB.out).ext hE2).ext (Ext.alloc _ (.cells #[.int .i64 r.s, .int .i64 r.c, .int .u64 r.d, .int .u64 r.t] 24)))
      have R2 := hid (At4.new w2 24 (.int .i64 r.s) (.int .i64 r.c) (.int .u64 r.d) (.int .u64 r.t))
      have HB2 := hid ((hE2.trans (Ext.alloc w2 (.cells #[.int .i64 r.s, .int .i64 r.c, .int .u64 r.d, .int .u64 r.t] 24))).obj HB.out)
      have hE3 := HE.out.trans (hE2.trans (Ext.alloc w2 (.cells #[.int .i64 r.s, .int .i64 r.c, .int .u64 r.d, .int .u64 r.t] 24)))
      clear c0 c1 c2 c3 d0 d1 d2 d3 hw2
      obtain ⟨c0, c1, c2, c3⟩ := D2.out
      obtain ⟨d0, d1, d2, d3⟩ := B2.out
      obtain ⟨r0, r1, r2, r3⟩ := R2.out
      go_wp2_with fail
      generalize hb3 : w2.heap.size = b3 at *
      clear hb3
      generalize w2.alloc (.cells #[.int .i64 r.s, .int .i64 r.c, .int .u64 r.d, .int .u64 r.t] 24) = W2 at *
      have F := HF.out x l[k] W2 HI.out (hw.trans hE3)
      rw [HD.out] at F
      refine F.mono ?_
      clear F
      rintro e w4 ⟨rfl, hw4⟩
      have HB4 := hw4.obj HB2.out
      have R4 := hid (R2.out.ext hw4)
      have hE4 := hE3.trans hw4
      have HI4 := hid (HS.out x l[k] HI.out)
      rw [HD.out] at HI4
      clear hw4 c0 c1 c2 c3 d0 d1 d2 d3 r0 r1 r2 r3 D2 B2 R2 hE3 HB2 hE2 HF
      obtain ⟨r0, r1, r2, r3⟩ := R4.out
      have hf4 : ∀ j, w4.frozen? ⟨b1, j, none⟩ = false := fun j => by simp [World.frozen?, HB4]
      have HB5 := hid HB4
      clear HB4
      by_cases he : re = 0
      · have he' : (re == 0) = true := by simp [he]
        have HI5 := hid (HI4.out he)
        clear he HI4
        obtain ⟨d0, d1, d2, d3⟩ := At4.mk' HB5.out
        go_wp2_with fail
        refine ⟨⟨k + 1, r, by omega, by go_num, HI5, ?_, ?_⟩, ?_⟩
        · have e1 := Go.Joins.block_setCell (i := 0) HB5.out (.int .i64 r.s)
          have e2 := Go.Joins.block_setCell (i := 1) e1 (.int .i64 r.c)
          have e3 := Go.Joins.block_setCell (i := 2) e2 (.int .u64 r.d)
          exact Go.Joins.block_setCell (i := 3) e3 (.int .u64 r.t)
        · exact (((hE4.setCell (by omega) _).setCell (by omega) _).setCell (by omega) _).setCell (by omega) _
        · simp [intOf]; omega
      · have he' : (re == 0) = false := by simp [he]
        clear he
        go_wp2_with fail
        go_roundw
        case rel => exact ⟨k + 1, x, by omega, by go_num, HI, HB5, hE4⟩
        case measure => simp [intOf]; omega
    · obtain rfl : k = l.length := by omega
      go_wp2
      go_ret
      exact ⟨rfl, HE.out⟩

theorem enter_of {P : Program} {K : Nat} {fn : Func} (hK : P.funcs[K]? = some fn) (hK1 : (fn.name == "runtime.NumGoroutine") = false) (hK2 : fn.body.isNone = false) (args : Array Value) (w : World) :
    Sem.run P (callFunc K args) w = .ok (.enter K args) w := by
  have h1 : ¬ fn.name = "runtime.NumGoroutine" := by simpa using hK1
  have h2 : ¬ fn.body = none := fun h => by rw [h] at hK2; simp at hK2
  simp [callFunc, hK, h1, h2]
theorem enter_cnt (args : Array Value) (w : World) : Sem.run Try.prog (callFunc 14 args) w = .ok (.enter 14 args) w := enter_of Try.func14 (by kernel_rfl) (by kernel_rfl) args w
theorem enter_end (args : Array Value) (w : World) : Sem.run Try.prog (callFunc 15 args) w = .ok (.enter 15 args) w := enter_of Try.func15 (by kernel_rfl) (by kernel_rfl) args w
theorem enter_tok (args : Array Value) (w : World) : Sem.run Try.prog (callFunc 16 args) w = .ok (.enter 16 args) w := enter_of Try.func16 (by kernel_rfl) (by kernel_rfl) args w
end Go.Proofs.Ytahhafcbnkidnaa
