/- For every input the law SeglogCut returns true and leaves what was there as it was; and its card.
SeglogCut. -/
import Derived.Test.YtmbigiihcplcjaaDoorSegMH
import Derived.ArgAppend
import Derived.Test.YtmbigiihcplcjaaDoorCards
import Derived.Test.YtmbigiihcplcjaaDoorTie
import Derived.WalkKit
import Derived.ProofKit
import Derived.OpenShut
import Derived.Below
import Derived.Deep.DeepHandedRow
import Derived.Lib.LaidTab
import Derived.Lib.LaidU8
import Derived.Deep.DeepLaidRun
import Derived.ShutString
import Derived.Test.YtmbigiihcplcjaaDoorFrame
import Derived.Lib.SmallJoins
import Derived.Test.YtmbigiihcplcjaaDoorRecMT
set_option linter.unusedSimpArgs false
set_option linter.unusedVariables false
set_option maxRecDepth 100000
namespace Go.Proofs.YtmbigiihcplcjaaDoor
open Go Go.RowKit Go.Tum Go.ChangeMaps Go.Tum.Crc Go.Nam

theorem open_fs {R a : Nat} {D : List (List UInt8)} {c : List UInt8} {seg at' : UInt64} {most : Int} (hm : mayB seg most = true) (hs : seg.toNat = a + D.length) (ha : at'.toNat ≤ c.length) (h : a + D.length < 10000000000) :
    openG (fsS R a (D ++ [c])) seg at' most = (some ⟨seg, at', most, seg + 1, false⟩, 0, fsS R a (D ++ [c.take at'.toNat])) := by
  obtain ⟨h1, h2⟩ := fs_rd R a (D ++ [c]) (i := D.length) (by simp; omega) (by simp)
  have e : (D ++ [c])[D.length]'(by simp) = c := by simp
  rw [e] at h2
  unfold openG
  rw [hm, if_neg (by decide), hs, h1, if_neg (by simp), h2, if_neg (by omega)]
  by_cases hl : at'.toNat < c.length
  · rw [if_pos hl, fs_cut R a D c at'.toNat h ha, if_neg (by simp)]
  · rw [if_neg hl, List.take_of_length_le (by omega)]
theorem sum_cut (D : List (List UInt8)) (c : List UInt8) (k : Nat) : ((D ++ [c.take k]).map List.length).sum ≤ ((D ++ [c]).map List.length).sum := by
  simp only [List.map_append, List.map_cons, List.map_nil, List.sum_append, List.sum_cons, List.sum_nil, List.length_take]
  omega
theorem rd_end {R a : Nat} {D : List (List UInt8)} {c : List UInt8} {seg at' : UInt64} (hs : seg.toNat = a + D.length) (ha : c.length ≤ at'.toNat) (h : a + D.length < 10000000000) : readG (fsS R a (D ++ [c])) seg at' = (r0, 0, 3) := by
  obtain ⟨h1, h2⟩ := fs_rd R a (D ++ [c]) (i := D.length) (by simp; omega) (by simp)
  have e : (D ++ [c])[D.length]'(by simp) = c := by simp
  rw [e] at h2
  unfold readG
  rw [hs, if_neg (by omega), h1, if_neg (by simp), h2, if_pos ha]
/-- Parts of a row. -/
theorem rows_drop15 {w : World} {a : Addr} {n cap : Nat} {α : Type} {c : α → List Value} {l : List α} (h : RowsOf w 5 (.slice (some a) n cap) c l) {k : Nat} (hk : k < l.length) : RowsOf w 5 (.slice (some (a.add (k * 5))) (n - k) (cap - k)) c (l.drop k) := by
  obtain ⟨e, h1, h2, h3, h4⟩ := h.opens
  refine RowsOf.mk' (by rw [List.length_drop]; omega) (by omega) (by simp [maxLen] at *; omega) (by decide) (fun x hx => h.1 x (List.mem_of_mem_drop hx)) fun i hi j u hu => ?_
  rw [List.getElem_drop] at hu
  have := h4 a rfl (k + i) (by rw [List.length_drop] at hi; omega) j u hu
  rw [addr_add_add]
  have e2 : k * 5 + (i * 5 + j) = (k + i) * 5 + j := by omega
  rw [e2]
  exact this
theorem rows_take15 {w : World} {a : Addr} {n cap : Nat} {α : Type} {c : α → List Value} {l : List α} (h : RowsOf w 5 (.slice (some a) n cap) c l) {k cap' : Nat} (hk : k ≤ l.length) (hc : k ≤ cap') (hc2 : cap' ≤ cap) : RowsOf w 5 (.slice (some a) k cap') c (l.take k) := by
  obtain ⟨e, h1, h2, h3, h4⟩ := h.opens
  refine RowsOf.mk' (by rw [List.length_take]; omega) (by omega) (by simp [maxLen] at *; omega) (by decide) (fun x hx => h.1 x (List.mem_of_mem_take hx)) fun i hi j u hu => ?_
  rw [List.getElem_take] at hu
  exact h4 a rfl i (by rw [List.length_take] at hi; omega) j u hu
/-- One place more, in a row of its own. -/
theorem pls_more {w : World} {a : Addr} {k : Nat} {l : List (Plc × Value)} (h : Pls w (.slice (some a) k k) l) (hk : k ≤ 50) {g : Nat} {q : Plc × Value} (hq : Vec uv w q.2 q.1.r.n) (hg : w.heap[g]? = some (.cells (plcells q).toArray 37 (0, 0))) (ty : Nat) :
    ∃ v w', (Builtin.append_ #[30, 30] ty #[.slice (some a) k k, .slice (some ⟨g, 0, none⟩) 1 1]).run Tryd.prog w = .ok v w' ∧ Pls w' v (l ++ [q]) ∧ Ext w w' := by
  obtain ⟨i, hi1, hz, hs, hby⟩ := info_parts infoPlc
  obtain ⟨e, h1, h2, h3, h4⟩ := h.1.opens
  have hol : (l.flatMap plcells).length = k * 5 := by rw [flat_len (size := 5) (fun _ _ => rfl), e]
  have hcells : ∀ j u, (l.flatMap plcells)[j]? = some u → w.cell? (a.add j) = some u := by
    intro j u hu
    obtain ⟨-, ao, cap, e2, -, -, -, hc⟩ := h.1.2
    simp only [Value.slice.injEq] at e2
    obtain ⟨rfl, -, -⟩ := e2
    exact hc a rfl j u hu
  obtain ⟨v, w', hr, ho, hgw⟩ := run_append_arg_grows (P := Tryd.prog) w 30 ty 37 i _ 5 64 Tryd.underlying30 hi1 hz hs hby rfl (by decide) a k k (l.flatMap plcells) hol hcells ⟨g, 0, none⟩ 1 1 (plcells q) rfl (fun j u hu => by
    have e1 : (⟨g, 0, none⟩ : Addr).add j = ⟨g, j, none⟩ := by unfold Addr.add; split <;> simp_all
    rw [e1, cell_of_row _ _ _ _ _ _ hg]
    simpa using hu) (by omega) (by simp [maxLen]; omega) (by omega)
  have hx := Ext.grown hgw rfl
  refine ⟨v, w', hr, ⟨⟨fun _ _ => rfl, ?_⟩, fun z hz => ?_⟩, hx⟩
  · rw [List.length_append, List.length_singleton, ← e, List.flatMap_append]
    have := Sl.of_owns ho
    simpa using this
  · rcases List.mem_append.1 hz with hz | hz
    · exact (h.2 z hz).ext hx
    · rw [List.mem_singleton] at hz
      subst hz
      exact hq.ext hx
theorem val_app15 {P : Program} {ρ : Operand → Value} {w w' : World} {K : Value → World → Prop} {v : Value} {t st : Nat} {s x : Operand}
    {dst : Option Tmp} {ty : TypeId} {pos : String} {after : Array Edge} {guard : Option (Nat × Bool)}
    (h : (Builtin.append_ #[t, st] ty #[ρ s, ρ x]).run P w = .ok v w') (hk : K v w') :
    Par.vUpon P K ((execOp ρ { dst, op := .call { callee := .builtin .append, args := #[s, x], argTypes := #[t, st] }, type := ty, pos, after, guard }).run P w) := by
  unfold execOp
  simp only [resolve, invoke, builtin, Sem.run_bind, Sem.run_pure, Result.andThen_ok, List.map_toArray, List.map_cons, List.map_nil, h]
  exact hk
set_option maxHeartbeats 2000000 in
theorem seglogCut_law (seg : UInt64) (size : Int) (v : Value) (m : List (Rc × Value)) (cut : Int) (r : Rc) (u : Value) (w : World) (hr : RowsOf w 3 v rcells m) (hi : ∀ q ∈ m, Vec uv w q.2 q.1.n) (hu : Vec uv w u r.n) (hp : Pw w) (ht : Tab w) :
    Calls Tryd.prog 3 #[uv seg, .int .i64 size, v, .int .i64 cut, rv r u] w fun e w' => e = .returned (.bool true) ∧ Ext w w' := by
  have HR := hid hr
  have HI := hid hi
  have HP := hid hp
  have HT := hid ht
  obtain ⟨vo0, vc0, rfl, -⟩ := hr.open
  obtain ⟨uo, uc, rfl, -⟩ := hu.open
  obtain ⟨un, hun⟩ : ∃ n, r.n.length = n := ⟨_, rfl⟩
  rw [hun] at hu ⊢
  have HU := hid hu
  obtain ⟨W0, hW0⟩ : ∃ W, w.alloc (.cells #[.int .i64 r.kind, .slice uo un uc, .string (str r.text)] 26 (0, 0)) = W := ⟨_, rfl⟩
  have hE0 := Ext.alloc w (.cells #[.int .i64 r.kind, .slice uo un uc, .string (str r.text)] 26 (0, 0))
  have hb0 := heap_alloc_new w (.cells #[.int .i64 r.kind, .slice uo un uc, .string (str r.text)] 26 (0, 0))
  rw [hW0] at hE0 hb0
  obtain ⟨rb, hrb⟩ : ∃ n, w.heap.size = n := ⟨_, rfl⟩
  rw [hrb] at hb0
  have HE0 := hid hE0
  have HB0 := hid hb0
  have HCA := hid (awake15_any W0 (ht.ext hE0) (Pw.ext15 hp hE0))
  clear hr hi hu hp ht hun hE0 hb0
  obtain ⟨kind, rn, text⟩ := r
  dsimp only at HU HB0 hW0 ⊢
  go_enter Tryd.func3, Tryd.ntmps3
  go_wp2_with fail
  try rw [hrb]
  try rw [hW0]
  clear hW0 hrb
  refine HCA.out.mono ?_
  rintro e w1 ⟨rfl, hx⟩
  have HE1 := hid (HE0.out.trans hx)
  have HB1 := hid (hx.obj HB0.out)
  have HRBL : Hid (rb < w1.heap.size) := hid (Array.getElem?_eq_some_iff.1 HB1.out).1
  have HCF := hid (full_any seg size _ m (HR.out.ext HE1.out) (fun q hq => (HI.out q hq).ext HE1.out) (Pw.ext15 HP.out HE1.out) (HT.out.ext HE1.out))
  clear hx HCA HB0
  go_wp2_with fail
  refine HCF.out.mono ?_
  rintro e w2 hfr
  rcases hfr with ⟨rfl, hx⟩ | ⟨p, b, x, g, D, c, ps, po, pc, rfl, l2, fo, pl, sep, pv0, hx⟩
  · have HE2 := hid (HE1.out.trans hx)
    clear hx HCF
    go_wp2
    go_returns
    exact ⟨rfl, HE2.out⟩
  have L2 := hid l2
  have FO := hid fo
  have HX2 := hid hx
  have HB2 := hid (hx.obj HB1.out)
  have HRW : Hid (w2.ownsRow w1.heap.size 37 5 (.slice po ps.length pc) ps.length (ps.flatMap plcells) ∧ ∀ a ∈ oB (.slice po ps.length pc), a ∉ b :: x.blk p) := hid ⟨pl.1, fun a ha hm => by
    rcases List.mem_cons.1 hm with e | e
    · exact (sep a ha).1 e
    · exact (sep a ha).2 e⟩
  have HPV : Hid (∀ q ∈ ps, Vec uv w1 q.2 q.1.r.n) := hid pv0
  obtain ⟨pn, hpn⟩ : ∃ n, ps.length = n := ⟨_, rfl⟩
  have HPN := hid hpn
  rw [hpn] at HRW ⊢
  clear l2 fo pl sep pv0 hx HCF hpn HB1
  by_cases hc1 : cut < 0
  · have d1 : decide (cut < 0) = true := by simpa using hc1
    clear hc1
    go_wp2
    go_returns
    exact ⟨rfl, HE1.out.trans HX2.out⟩
  have d1 : decide (cut < 0) = false := by simpa using hc1
  by_cases hc2 : (pn : Int) ≤ cut
  · have d2 : decide (cut ≥ (pn : Int)) = true := by simpa using hc2
    have d3 : decide ((pn : Int) ≤ cut) = true := by simpa using hc2
    clear hc1 hc2
    go_wp2
    go_returns
    exact ⟨rfl, HE1.out.trans HX2.out⟩
  have d2 : decide (cut ≥ (pn : Int)) = false := by simpa using hc2
  have d3 : decide ((pn : Int) ≤ cut) = false := by simpa using hc2
  obtain ⟨k, rfl⟩ : ∃ k : Nat, cut = (k : Int) := ⟨cut.toNat, by omega⟩
  have hk : k < pn := by omega
  have d4 : decide (pn ≤ k) = false := by simp; omega
  have HK := hid hk
  have HPN50 : Hid (pn ≤ 50) := hid (by have := FO.out.ln; have := HPN.out; omega)
  obtain ⟨m0, m1, m2, mf⟩ := lk3 HB2.out
  have hcl := large_any ⟨kind, rn, text⟩ (.slice uo un uc) w2 (HU.out.ext (HE1.out.trans HX2.out))
  obtain ⟨lb, hlb⟩ : ∃ c, largeB (⟨kind, rn, text⟩ : Rc) = c := ⟨_, rfl⟩
  rw [hlb] at hcl
  have HCL := hid hcl
  clear hcl hlb hc1 hc2
  go_wp2_with fail
  clear m0 m1 m2 mf d1 d2 d3 d4
  refine HCL.out.mono ?_
  rintro e w3 ⟨rfl, hx⟩
  have HX3 := hid (HX2.out.trans hx)
  have L3 := hid (L2.out.ext hx)
  have HRW3 := hid (And.intro (Ext.owns hx HRW.out.1) HRW.out.2)
  have HB3 := hid (hx.obj HB2.out)
  obtain ⟨m0, m1, m2, mf⟩ := lk3 HB3.out
  clear hx HCL L2 HRW HX2 HB2
  cases lb
  case true =>
    clear m0 m1 m2 mf
    go_wp2
    go_returns
    exact ⟨rfl, HE1.out.trans HX3.out⟩
  have hcr := right_any ⟨kind, rn, text⟩ (.slice uo un uc) w3 (HU.out.ext (HE1.out.trans HX3.out)) (HT.out.ext (HE1.out.trans HX3.out))
  obtain ⟨rbb, hrbb⟩ : ∃ c, rightB (⟨kind, rn, text⟩ : Rc) = c := ⟨_, rfl⟩
  rw [hrbb] at hcr
  have HCR := hid hcr
  have HRB := hid hrbb
  clear hcr hrbb
  go_wp2_with fail
  clear m0 m1 m2 mf
  refine HCR.out.mono ?_
  rintro e w4 ⟨rfl, hx⟩
  have HX4 := hid (HX3.out.trans hx)
  have L4 := hid (L3.out.ext hx)
  have HRW4 := hid (And.intro (Ext.owns hx HRW3.out.1) HRW3.out.2)
  have HB4 := hid (hx.obj HB3.out)
  clear hx HCR L3 HRW3 HX3 HB3
  cases rbb
  case false =>
    go_wp2
    go_returns
    exact ⟨rfl, HE1.out.trans HX4.out⟩
  have hrows : RowsOf w4 5 (.slice po pn pc) plcells ps := ⟨fun _ _ => rfl, by rw [HPN.out]; exact Sl.of_owns HRW4.out.1⟩
  obtain ⟨-, hle, hmx, hnn, hcell⟩ := hrows.opens
  obtain ⟨pa, rfl⟩ := hnn (by have := HK.out; omega)
  have hkl : k < ps.length := by rw [HPN.out]; exact HK.out
  have hc0 := hcell pa rfl k hkl 0 _ rfl
  have hc1 := hcell pa rfl k hkl 1 _ rfl
  have hc2 := hcell pa rfl k hkl 2 _ rfl
  have hc3 := hcell pa rfl k hkl 3 _ rfl
  have hc4 := hcell pa rfl k hkl 4 _ rfl
  obtain ⟨X, hX⟩ : ∃ q, ps[k] = q := ⟨_, rfl⟩
  rw [hX] at hc0 hc1 hc2 hc3 hc4
  have HXE : Hid (ps[k]? = some X) := hid (by rw [List.getElem?_eq_getElem hkl, hX])
  have hxv := (HPV.out X (by rw [← hX]; exact List.getElem_mem hkl)).ext HX4.out
  obtain ⟨⟨⟨xk, xn, xt⟩, xs, xa⟩, xu⟩ := X
  dsimp only at hc0 hc1 hc2 hc3 hc4 hxv
  obtain ⟨xo, xc, rfl, -⟩ := hxv.open
  obtain ⟨xl, hxl⟩ : ∃ n, xn.length = n := ⟨_, rfl⟩
  rw [hxl] at hc1
  have k0 := cell_first hc0
  have k1 := cell_next hc1 (by decide)
  have k2 := cell_next hc2 (by decide)
  have k3 := cell_next hc3 (by decide)
  have k4 := cell_next hc4 (by decide)
  have HROW := hid hrows
  have HCAP : Hid (pn ≤ pc ∧ pc ≤ 9223372036854775807) := hid ⟨hle, hmx⟩
  obtain ⟨W5, hW5⟩ : ∃ W, w4.alloc (.cells #[.int .i64 xk, .slice xo xl xc, .string (str xt), uv xs, uv xa] 37 (0, 0)) = W := ⟨_, rfl⟩
  have hE5 := Ext.alloc w4 (.cells #[.int .i64 xk, .slice xo xl xc, .string (str xt), uv xs, uv xa] 37 (0, 0))
  have hb5 := heap_alloc_new w4 (.cells #[.int .i64 xk, .slice xo xl xc, .string (str xt), uv xs, uv xa] 37 (0, 0))
  rw [hW5] at hE5 hb5
  obtain ⟨xb, hxb⟩ : ∃ n, w4.heap.size = n := ⟨_, rfl⟩
  have HNX : Hid (xb ≠ b ∧ xb ∉ x.blk p) := hid ⟨fun e => by have := (Array.getElem?_eq_some_iff.1 L4.out.lg).1; omega, by rw [← hxb]; exact L4.out.dk.new15⟩
  rw [hxb] at hb5
  have HX5 := hid (HX4.out.trans hE5)
  have L5 := hid (L4.out.ext hE5)
  have HRW5 := hid (And.intro (Ext.owns hE5 HRW4.out.1) HRW4.out.2)
  have HB5 := hid (hE5.obj HB4.out)
  have HXB5 := hid hb5
  have HROW5 := hid (HROW.out.ext hE5)
  have hki : decide ((k : Int) < (pn : Int)) = true := by have := HK.out; simp; omega
  have hkj : decide (k < pn) = true := by have := HK.out; simpa using this
  have hks1 : (0 : Int) ≤ (k : Int) := by omega
  have hks2 : (k : Int) ≤ (pn : Int) := by have := HK.out; omega
  have hks3 : k ≤ pn := by have := HK.out; omega
  have hks4 : ¬ pc = k := by have := HK.out; omega
  have hks5 : (pn : Int) ≤ (pc : Int) := by omega
  clear hc0 hc1 hc2 hc3 hc4 hrows hcell hnn hX hxv hxl hE5 hb5 hkl HROW HX4 L4 HRW4 HB4
  go_wp2_with fail
  try rw [hxb]
  try rw [hW5]
  clear hW5 hxb k0 k1 k2 k3 k4
  obtain ⟨dn, hdn⟩ : ∃ n, pn - k = n := ⟨_, rfl⟩
  have HDN := hid hdn
  try rw [hdn]
  go_loopw [66] (fun iv wr => ∃ j : Nat, j ≤ pn - k ∧ iv = .int .i64 (j : Int) ∧ Hid (∀ i (h : i < ps.length), k ≤ i → i < k + j → ps[i].1.seg = xs) ∧ Hid (Ext W5 wr)) (fun iv _ => pn - k - (intOf iv).toNat)
  case atStart => exact ⟨0, Nat.zero_le _, rfl, hid (fun i h h1 h2 => by omega), hid (Ext.refl _)⟩
  case round =>
    obtain ⟨j, hj, rfl, HSE, HW⟩ := hrel
    by_cases hlt : j < pn - k
    · have hlj : decide (j < dn) = true := by rw [← hdn]; simpa using hlt
      have hlj2 : decide ((j : Int) < (dn : Int)) = true := by rw [← hdn]; simp; omega
      have hlp : j < dn := by rw [← hdn]; exact hlt
      have hkj2 : k + j < ps.length := by rw [HPN.out]; omega
      have hrj : (ps.drop k)[j]? = ps[k + j]? := by rw [List.getElem?_drop]
      obtain ⟨e9, -, -, -, hcell9⟩ := (rows_drop15 (HROW5.out.ext HW.out) (k := k) (by rw [HPN.out]; exact HK.out)).opens
      have hjd : j < (ps.drop k).length := by rw [List.length_drop]; omega
      have hc0 := hcell9 _ rfl j hjd 0 _ rfl
      have hc1 := hcell9 _ rfl j hjd 1 _ rfl
      have hc2 := hcell9 _ rfl j hjd 2 _ rfl
      have hc3 := hcell9 _ rfl j hjd 3 _ rfl
      have hc4 := hcell9 _ rfl j hjd 4 _ rfl
      obtain ⟨Y, hY⟩ : ∃ q, (ps.drop k)[j] = q := ⟨_, rfl⟩
      rw [hY] at hc0 hc1 hc2 hc3 hc4
      have HYE : Hid (ps[k + j]? = some Y) := hid (by rw [← hrj, List.getElem?_eq_getElem hjd, hY])
      have hyv := HPV.out Y (List.mem_of_getElem? HYE.out)
      obtain ⟨⟨⟨yk, yn, yt⟩, ys, ya⟩, yu⟩ := Y
      dsimp only at hc0 hc1 hc2 hc3 hc4 hyv
      obtain ⟨yo, yc, rfl, -⟩ := hyv.open
      obtain ⟨yl, hyl⟩ : ∃ n, yn.length = n := ⟨_, rfl⟩
      rw [hyl] at hc1
      have k0 := cell_first hc0
      have k1 := cell_next hc1 (by decide)
      have k2 := cell_next hc2 (by decide)
      have k3 := cell_next hc3 (by decide)
      have k4 := cell_next hc4 (by decide)
      obtain ⟨-, x1, -, -, -, -⟩ := blk5' (HW.out.obj HXB5.out)
      have HLT := hid hlt
      obtain ⟨W6, hW6⟩ : ∃ W, wr.alloc (.cells #[.int .i64 yk, .slice yo yl yc, .string (str yt), uv ys, uv ya] 37 (0, 0)) = W := ⟨_, rfl⟩
      have hE6 := Ext.alloc wr (.cells #[.int .i64 yk, .slice yo yl yc, .string (str yt), uv ys, uv ya] 37 (0, 0))
      have hb6 := heap_alloc_new wr (.cells #[.int .i64 yk, .slice yo yl yc, .string (str yt), uv ys, uv ya] 37 (0, 0))
      rw [hW6] at hE6 hb6
      obtain ⟨y0, y1, y2, y3, y4, yf⟩ := blk5' hb6
      obtain ⟨x0, x1', x2, x3, x4, xf⟩ := blk5' (hE6.obj (HW.out.obj HXB5.out))
      have HW6 := hid (HW.out.trans hE6)
      clear hc0 hc1 hc2 hc3 hc4 hcell9 hjd hrj hkj2 hY hyv hyl e9 x1 hlt hj hE6 hb6
      by_cases hys : ys = xs
      · subst hys
        have hne : ((ys.toNat : Int) != (ys.toNat : Int)) = false := by simp
        go_wp2_with fail
        try rw [hW6]
        clear hW6 k0 k1 k2 k3 k4 y0 y1 y2 y3 y4 yf x0 x1' x2 x3 x4 xf hne
        go_wp2
        go_roundw
        case rel =>
          refine ⟨j + 1, HLT.out, by go_num, hid fun i h h1 h2 => ?_, HW6⟩
          by_cases e : i = k + j
          · subst e
            have := HYE.out
            rw [List.getElem?_eq_getElem h] at this
            rw [Option.some.inj this]
          · exact HSE.out i h h1 (by omega)
        case measure => simp [intOf]; have := HLT.out; omega
      · have hne : ((ys.toNat : Int) != (xs.toNat : Int)) = true := by
          simp only [bne_iff_ne, ne_eq]
          intro e
          exact hys (UInt64.toNat_inj.1 (by omega))
        clear hys
        go_wp2_with fail
        try rw [hW6]
        clear hW6 k0 k1 k2 k3 k4 y0 y1 y2 y3 y4 yf x0 x1' x2 x3 x4 xf
        go_wp2
        go_returns
        exact ⟨rfl, HE1.out.trans (HX5.out.trans HW6.out)⟩
    · obtain rfl : j = pn - k := by omega
      have hlj : decide (pn - k < dn) = false := by rw [← hdn]; simp
      have hlj2 : decide (((pn - k : Nat) : Int) < (dn : Int)) = false := by rw [← hdn]; simp
      have hkl : k < ps.length := by rw [HPN.out]; exact HK.out
      have hkm : k < (ps.map Prod.fst).length := by rw [List.length_map]; exact hkl
      have hX : ps[k] = (⟨⟨xk, xn, xt⟩, xs, xa⟩, .slice xo xn.length xc) := by
        have := HXE.out
        rw [List.getElem?_eq_getElem hkl] at this
        exact Option.some.inj this
      have hXm : (ps.map Prod.fst)[k] = ⟨⟨xk, xn, xt⟩, xs, xa⟩ := by rw [List.getElem_map, hX]
      have hall : ∀ q ∈ (ps.map Prod.fst).drop k, q.seg = ((ps.map Prod.fst)[k]).seg := by
        intro q hq
        rw [hXm]
        obtain ⟨i, hi, e⟩ := List.mem_iff_getElem.1 hq
        rw [List.getElem_drop, List.getElem_map] at e
        rw [← e]
        rw [List.length_drop, List.length_map] at hi
        exact HSE.out (k + i) (by omega) (by omega) (by rw [HPN.out] at hi; omega)
      obtain ⟨hlast, hatl, hpl⟩ := FO.out.ok.cut hkm hall
      rw [hXm] at hlast hatl hpl
      dsimp only at hlast hatl hpl
      have hsl : seg.toNat + D.length < 10000000000 := by
        have h1 := FO.out.sg
        have h2 := FO.out.dl
        have h3 := FO.out.ln
        omega
      have hmy : mayB xs size = true := by
        have h2 := mayB_most FO.out.my
        unfold mayB
        simp only [Bool.and_eq_true, decide_eq_true_eq]
        exact ⟨h2.1, h2.2, by rw [hlast]; exact hsl⟩
      have hco := sopen_any xs xa size (L5.out.dk.ext HW.out) (Nat.le_trans HX5.out.size HW.out.size) FO.out.wf (Pw.ext15 HP.out (HE1.out.trans (HX5.out.trans HW.out)))
      have hwo := wf_openG FO.out.wf xs xa size
      rw [open_fs hmy hlast hatl hsl] at hco hwo
      have hsum := sum_cut D c xa.toNat
      have hc2l : (c.take xa.toNat).length = xa.toNat := by rw [List.length_take]; omega
      obtain ⟨c2, hc2⟩ : ∃ l, c.take xa.toNat = l := ⟨_, rfl⟩
      rw [hc2] at hco hwo hpl hsum hc2l
      have HCO := hid hco
      have HWO := hid hwo
      have HLA := hid hlast
      have HPL := hid hpl
      have HSL := hid hsl
      have HSM := hid hsum
      have HC2L := hid hc2l
      have HSMA := hid (FO.out.sm)
      have HX6 := hid (HX5.out.trans HW.out)
      have L6 := hid (L5.out.ext HW.out)
      have HRW6 := hid (And.intro (Ext.owns HW.out HRW5.out.1) HRW5.out.2)
      have HB6 := hid (HW.out.obj HB5.out)
      have HXB6 := hid (HW.out.obj HXB5.out)
      obtain ⟨x0, x1, x2, x3, x4, xf⟩ := blk5' HXB6.out
      clear hkl hkm hX hXm hall hlast hatl hpl hsl hmy hco hwo hsum hc2l hc2 hlt hj HSE HW L5 HRW5 HB5 HXB5 HX5 HROW5
      go_wp2_with fail
      clear hlj hlj2 x0 x1 x2 x3 x4 xf
      refine HCO.out.mono ?_
      rintro e w7 ⟨-, h⟩
      obtain ⟨b7, x7, rfl, l7, q7, f7, bl7, n7⟩ := h _ rfl
      have HRW7 := hid (row_step15 HRW6.out.1 (fun a ha hm => HRW6.out.2 a ha (List.mem_cons_of_mem _ hm)) f7 n7)
      have HX7 := hid (HX6.out.below bl7)
      have L7 := hid l7
      have hb7 := fr_keep f7 HB6.out (fun hm => by have h1 := L6.out.dk.low15 _ hm; have h2 := HRBL.out; omega)
      have hxb7 := fr_keep f7 HXB6.out HNX.out.2
      have HB7 := hid hb7
      have HXB7 := hid hxb7
      have hxn : ∀ q ∈ b7 :: x7.blk p, q ∈ x.blk p ∨ wr.heap.size ≤ q := fun q hq => by
        rcases List.mem_cons.1 hq with rfl | hq
        · exact .inr q7
        · exact n7 q hq
      have HN7 : Hid ((∀ a ∈ oB (.slice (some pa) pn pc), a ∉ b7 :: x7.blk p) ∧ xb ∉ b7 :: x7.blk p ∧ rb ∉ b7 :: x7.blk p) := hid (by
        refine ⟨fun a ha hm => ?_, fun hm => ?_, fun hm => ?_⟩
        · rcases hxn a hm with h9 | h9
          · exact HRW6.out.2 a ha (List.mem_cons_of_mem _ h9)
          · have := row_lt15 HRW6.out.1 a ha; omega
        · rcases hxn xb hm with h9 | h9
          · exact HNX.out.2 h9
          · have := (Array.getElem?_eq_some_iff.1 HXB6.out).1; omega
        · rcases hxn rb hm with h9 | h9
          · have h1 := L6.out.dk.low15 _ h9; have h2 := HRBL.out; omega
          · have := (Array.getElem?_eq_some_iff.1 HB6.out).1; omega)
      have hrows7 : RowsOf w7 5 (.slice (some pa) pn pc) plcells ps := ⟨fun _ _ => rfl, by rw [HPN.out]; exact Sl.of_owns HRW7.out.1⟩
      have hpls : Pls w7 (.slice (some pa) k pc) (ps.take k) := ⟨rows_take15 hrows7 (by rw [HPN.out]; exact Nat.le_of_lt HK.out) (by have := HCAP.out; have := HK.out; omega) (Nat.le_refl _), fun q hq => (HPV.out q (List.mem_of_mem_take hq)).ext HX7.out⟩
      have hct := there_any (.slice (some pa) k pc) (ps.take k) L7.out hpls (fun q hq => by
        have h9 := HPL.out q.1 (by rw [← List.map_take]; exact List.mem_map_of_mem hq)
        exact ⟨h9.1, h9.rd (by have := HSL.out; rw [List.length_append, List.length_singleton]; omega) (fs_rds 131072 seg.toNat (D ++ [c2]) (by have := HSL.out; rw [List.length_append, List.length_singleton]; omega))⟩) (Pw.ext15 HP.out (HE1.out.trans HX7.out)) (HT.out.ext (HE1.out.trans HX7.out))
      have HCT := hid hct
      have hkc : (k : Int) ≤ (pc : Int) := by have := HCAP.out; have := HK.out; omega
      have hkc2 : k ≤ pc := by omega
      clear h l7 q7 f7 bl7 n7 hb7 hxb7 hxn hrows7 hpls hct HCO L6 HRW6 HX6 HB6 HXB6
      go_wp2_with fail
      refine HCT.out.mono ?_
      rintro e w8 ⟨rfl, hx⟩
      have HX8 := hid (HX7.out.trans hx)
      have L8 := hid (L7.out.ext hx)
      have HRW8 := hid (And.intro (Ext.owns hx HRW7.out.1) HN7.out.1)
      have HB8 := hid (hx.obj HB7.out)
      have HXB8 := hid (hx.obj HXB7.out)
      obtain ⟨x0, x1, x2, x3, x4, xf⟩ := blk5' HXB8.out
      have hcr := sread_any xs xa L8.out (Pw.ext15 HP.out (HE1.out.trans HX8.out)) (HT.out.ext (HE1.out.trans HX8.out))
      rw [rd_end HLA.out (by rw [HC2L.out]; exact Nat.le_refl _) HSL.out] at hcr
      have HCR := hid hcr
      clear hx HCT L7 HRW7 HX7 HB7 HXB7 hcr
      go_wp2_with fail
      clear x0 x1 x2 x3 x4 xf
      refine HCR.out.mono ?_
      rintro e w9 ⟨⟨y, rfl, hy⟩, hx⟩
      obtain ⟨yo, yc, rfl, -⟩ := hy.open
      obtain ⟨W9, hW9⟩ : ∃ W, w9.alloc (.cells #[.int .i64 0, .slice yo 0 yc, .string (str [])] 26 (0, 0)) = W := ⟨_, rfl⟩
      have hE9 := hx.trans (Ext.alloc w9 (.cells #[.int .i64 0, .slice yo 0 yc, .string (str [])] 26 (0, 0)))
      rw [hW9] at hE9
      have HX9 := hid (HX8.out.trans hE9)
      have L9 := hid (L8.out.ext hE9)
      have HRW9 := hid (And.intro (Ext.owns hE9 HRW8.out.1) HRW8.out.2)
      have HB9 := hid (hE9.obj HB8.out)
      have HXB9 := hid (hE9.obj HXB8.out)
      obtain ⟨m0, m1, m2, mf⟩ := lk3 HB9.out
      have hrl := recB_len HRB.out
      obtain ⟨g', hG, -, -, hWF, hca⟩ := sapp_fs (R := 131072) (a := seg.toNat) (most := size) (D := D) (c := c2) ⟨kind, rn, text⟩ (.slice uo un uc) L9.out ⟨HLA.out, HC2L.out.symm, rfl⟩ (HU.out.ext (HE1.out.trans HX9.out)) HX9.out.size HWO.out (pwB_of (Pw.ext15 HP.out HE1.out) HX9.out) (HT.out.ext (HE1.out.trans HX9.out)) HRB.out (by have := FO.out.sg; omega) (by have h1 := FO.out.dl; have h2 := FO.out.ln; omega) (by have h1 := HSM.out; have h2 := HSMA.out; have h3 := FO.out.ln; omega) (by decide) (mayB_most FO.out.my)
      have hc2b : c2.length ≤ 1048576 := by
        have h1 := HSM.out
        have h2 := HSMA.out
        have h3 := FO.out.ln
        have h4 : c2.length ≤ ((D ++ [c2]).map List.length).sum := by rw [List.map_append, List.sum_append]; simp
        omega
      have hnew := putF_new (a := seg.toNat) HRB.out hG hc2b
      have hgrow := putF_grow size D c2 (recB ⟨kind, rn, text⟩)
      have hpl2 := putF_len size D c2 (recB ⟨kind, rn, text⟩)
      have hgs := hG.sg
      have hwhere : (g'.seg = xs ∧ UInt64.ofNat (putA size c2 (recB ⟨kind, rn, text⟩)) = xa) ∨ (g'.seg = xs + 1 ∧ UInt64.ofNat (putA size c2 (recB ⟨kind, rn, text⟩)) = 0) := by
        unfold putA
        by_cases q : c2 ≠ [] ∧ size < (c2.length + (recB ⟨kind, rn, text⟩).length : Nat)
        · right
          rw [if_pos q]
          refine ⟨UInt64.toNat_inj.1 ?_, rfl⟩
          unfold putF at hgs
          rw [if_pos q] at hgs
          rw [hgs, UInt64.toNat_add, HLA.out, show (1 : UInt64).toNat = 1 from rfl]
          have := HSL.out
          simp only [List.length_append, List.length_singleton]
          omega
        · left
          rw [if_neg q]
          refine ⟨UInt64.toNat_inj.1 ?_, UInt64.toNat_inj.1 ?_⟩
          · unfold putF at hgs
            rw [if_neg q] at hgs
            rw [hgs, HLA.out]
          · rw [u64_small (by omega), HC2L.out]
      obtain ⟨at2, hat2⟩ : ∃ a, UInt64.ofNat (putA size c2 (recB ⟨kind, rn, text⟩)) = a := ⟨_, rfl⟩
      obtain ⟨PF, hPF⟩ : ∃ P, putF size D c2 (recB ⟨kind, rn, text⟩) = P := ⟨_, rfl⟩
      obtain ⟨sg2, hsg2⟩ : ∃ s, g'.seg = s := ⟨_, rfl⟩
      rw [hat2] at hca hnew hwhere
      rw [hPF] at hWF hca hnew hgrow hpl2
      rw [hsg2] at hca hnew hwhere
      obtain ⟨D3, c3⟩ := PF
      dsimp only at hWF hca hnew hgrow hpl2
      have HL3 : Hid (seg.toNat + (D3 ++ [c3]).length ≤ 10000000000) := hid (by have h1 := FO.out.sg; have h2 := FO.out.dl; have h3 := FO.out.ln; rw [List.length_append, List.length_singleton]; omega)
      have HRDS : Hid (∀ q ∈ ps.take k ++ [((⟨⟨kind, rn, text⟩, sg2, at2⟩, .slice uo un uc) : Plc × Value)], RdOk (fsS 131072 seg.toNat (D3 ++ [c3])) q.1) := hid (by
        intro q hq
        have h9 : PlIn seg.toNat (D3 ++ [c3]) q.1 := by
          rcases List.mem_append.1 hq with hq | hq
          · exact (HPL.out q.1 (by rw [← List.map_take]; exact List.mem_map_of_mem hq)).grow hgrow.1 hgrow.2
          · rw [List.mem_singleton] at hq
            subst hq
            exact hnew
        exact ⟨h9.1, h9.rd HL3.out (fs_rds 131072 seg.toNat (D3 ++ [c3]) HL3.out)⟩)
      have HCA2 := hid hca
      have HWH := hid hwhere
      clear hx hy hE9 HCR L8 HRW8 HX8 HB8 HXB8 hrl hG hWF hca hc2b hnew hgrow hpl2 hgs hwhere hat2 hPF hsg2
      go_wp2_with fail
      try rw [hW9]
      clear hW9 m0 m1 m2 mf
      refine HCA2.out.mono ?_
      rintro e w10 ⟨rfl, hs⟩
      obtain ⟨x10, l10, f10, bl10, n10⟩ := LStp.open hs
      have HRW10 := hid (row_step15 HRW9.out.1 HRW9.out.2 f10 n10)
      have HX10 := hid (HX9.out.below bl10)
      have L10 := hid l10
      have hb10 := fr_keep f10 HB9.out HN7.out.2.2
      have hxb10 := fr_keep f10 HXB9.out HN7.out.2.1
      have hrows10 : RowsOf w10 5 (.slice (some pa) pn pc) plcells ps := ⟨fun _ _ => rfl, by rw [HPN.out]; exact Sl.of_owns HRW10.out.1⟩
      have hpls : Pls w10 (.slice (some pa) k k) (ps.take k) := ⟨rows_take15 hrows10 (by rw [HPN.out]; exact Nat.le_of_lt HK.out) (Nat.le_refl _) hkc2, fun q hq => (HPV.out q (List.mem_of_mem_take hq)).ext HX10.out⟩
      have HPLS := hid hpls
      have HB10 := hid hb10
      have HXB10 := hid hxb10
      have HUV := hid (HU.out.ext (HE1.out.trans HX10.out))
      have HK50 : Hid (k ≤ 50) := hid (by have := HK.out; have := HPN50.out; omega)
      clear hs l10 f10 bl10 n10 hb10 hxb10 hrows10 hpls HCA2 L9 HRW9 HX9 HB9 HXB9
      rcases HWH.out with ⟨rfl, rfl⟩ | ⟨hsg, hat⟩
      · go_wp2_with fail
        refine Par.wp_region_par (l := [_, _, _, _, _, _, _, _, _, _, _, _, _, _, _, _, _, _, _, _, _, _, _, _, _, _, _, _, _, _, _, _, _, _, _, _, _, _, _, _]) rfl Ext (Par.VL [Par.EQ (Value.int IntKind.i64 0), Par.EQ (Value.bool true), Par.EQ (Value.bool true), Par.EQ (pv b7), Par.EQ (Value.slice (some pa) pn pc), Par.EQ (Value.int IntKind.i64 (k : Int)), Par.EQ (Value.int IntKind.i64 (k : Int)), Par.EQ (Value.slice (some pa) k k), Par.EQ (Value.agg #[.int .i64 kind, .slice uo un uc, .string (str text)]), Par.EQ (uv sg2), Par.EQ (uv at2), Par.EQ (Value.agg #[.int .i64 kind, .slice uo un uc, .string (str text), uv sg2, uv at2]), (fun v w' => ∃ gg, v = Value.slice (some ⟨gg, 0, none⟩) 1 1 ∧ w'.heap[gg]? = some (.cells (plcells (⟨⟨kind, rn, text⟩, sg2, at2⟩, .slice uo un uc)).toArray 37 (0, 0))), (fun v w' => Pls w' v (ps.take k ++ [((⟨⟨kind, rn, text⟩, sg2, at2⟩, .slice uo un uc) : Plc × Value)])), Par.EQ (Value.bool true), Par.EQ (Value.bool true), Par.EQ (Value.bool true), Par.EQ (uv sg2), Par.EQ (Value.pointer (some ⟨xb, 3, none⟩)), Par.EQ (uv sg2), Par.EQ (Value.bool true), Par.EQ (Value.bool true), Par.EQ (uv at2), Par.EQ (Value.pointer (some ⟨xb, 4, none⟩)), Par.EQ (uv at2), Par.EQ (Value.bool true), Par.EQ (Value.bool true), Par.EQ (Value.bool true), Par.EQ (undef), Par.EQ (undef), Par.EQ (undef), Par.EQ (undef), Par.EQ (undef), Par.EQ (undef), Par.EQ (undef), Par.EQ (undef), Par.EQ (undef), Par.EQ (Value.bool true), Par.EQ (Value.bool true), Par.EQ (Value.bool true)]) (by kernel_rfl) Ext.refl (fun _ _ _ h1 h2 => Ext.trans h1 h2) (Ext.draw _) (Par.VL_stab ?_) ?_ ?_
        · simp only [List.forall_mem_cons, List.not_mem_nil, false_implies, implies_true, and_true]
          refine ⟨fun _ _ _ _ h => h, fun _ _ _ _ h => h, fun _ _ _ _ h => h, fun _ _ _ _ h => h, fun _ _ _ _ h => h, fun _ _ _ _ h => h, fun _ _ _ _ h => h, fun _ _ _ _ h => h, fun _ _ _ _ h => h, fun _ _ _ _ h => h, fun _ _ _ _ h => h, fun _ _ _ _ h => h, fun v a b k hh => (by obtain ⟨gg, h1, h2⟩ := hh; exact ⟨gg, h1, k.obj h2⟩), fun v a b k hh => hh.ext k, fun _ _ _ _ h => h, fun _ _ _ _ h => h, fun _ _ _ _ h => h, fun _ _ _ _ h => h, fun _ _ _ _ h => h, fun _ _ _ _ h => h, fun _ _ _ _ h => h, fun _ _ _ _ h => h, fun _ _ _ _ h => h, fun _ _ _ _ h => h, fun _ _ _ _ h => h, fun _ _ _ _ h => h, fun _ _ _ _ h => h, fun _ _ _ _ h => h, fun _ _ _ _ h => h, fun _ _ _ _ h => h, fun _ _ _ _ h => h, fun _ _ _ _ h => h, fun _ _ _ _ h => h, fun _ _ _ _ h => h, fun _ _ _ _ h => h, fun _ _ _ _ h => h, fun _ _ _ _ h => h, fun _ _ _ _ h => h, fun _ _ _ _ h => h, fun _ _ _ _ h => h⟩
        · refine ⟨⟨fun _ _ => trivial, fun ρ w' hX hG hk => ?_⟩, ?_⟩
          · exact Par.val_of_run rfl ⟨Ext.refl _, hk.1⟩
          refine ⟨⟨fun _ _ => trivial, fun ρ w' hX hG hk => ?_⟩, ?_⟩
          · obtain ⟨k0, k1, -⟩ := hk
            have e0 : ρ (.tmp 119) = Value.int IntKind.i64 0 := k0
            have e1 : ρ (Operand.const (Value.int IntKind.i64 0)) = (Value.int IntKind.i64 0) := k1
            clear k0 k1
            refine Par.val_k fun K hK => ?_
            unfold Par.val
            (go_simp; exact hK _ _ ⟨Ext.refl _, rfl⟩)
          refine ⟨⟨fun _ _ => trivial, fun ρ w' hX hG hk => ?_⟩, ?_⟩
          · exact Par.val_of_run rfl ⟨Ext.refl _, hk.1⟩
          refine ⟨⟨fun _ _ u hu => .inl hu, fun ρ w' hX hG hk => ?_⟩, ?_⟩
          · exact Par.val_of_run rfl ⟨Ext.refl _, hk.1⟩
          refine ⟨⟨fun _ _ u hu => .inl hu, fun ρ w' hX hG hk => ?_⟩, ?_⟩
          · exact Par.val_of_run rfl ⟨Ext.refl _, hk.1⟩
          refine ⟨⟨fun _ _ u hu => .inl hu, fun ρ w' hX hG hk => ?_⟩, ?_⟩
          · exact Par.val_of_run rfl ⟨Ext.refl _, hk.1⟩
          refine ⟨⟨fun _ _ u hu => .inl hu, fun ρ w' hX hG hk => ?_⟩, ?_⟩
          · exact Par.val_of_run rfl ⟨Ext.refl _, hk.1⟩
          refine ⟨⟨fun _ _ u hu => .inl hu, fun ρ w' hX hG hk => ?_⟩, ?_⟩
          · obtain ⟨k0, k1, k2, -⟩ := hk
            have e0 : ρ (.tmp 123) = Value.slice (some pa) pn pc := k0
            have e1 : ρ (.tmp 124) = Value.int IntKind.i64 (k : Int) := k1
            have e2 : ρ (.tmp 125) = Value.int IntKind.i64 (k : Int) := k2
            clear k0 k1 k2
            refine Par.val_k fun K hK => ?_
            unfold Par.val
            (go_simp; exact hK _ _ ⟨Ext.refl _, rfl⟩)
          refine ⟨⟨fun _ _ u hu => .inl hu, fun ρ w' hX hG hk => ?_⟩, ?_⟩
          · obtain ⟨k0, -⟩ := hk
            have e0 : ρ (.tmp 9) = Value.pointer (some ⟨rb, 0, none⟩) := k0
            clear k0
            refine Par.val_k fun K hK => ?_
            unfold Par.val
            (obtain ⟨q0, q1, q2, -⟩ := lk3 (hX.obj HB10.out); go_simp; exact hK _ _ ⟨Ext.refl _, rfl⟩)
          refine ⟨⟨fun _ _ u hu => .inl hu, fun ρ w' hX hG hk => ?_⟩, ?_⟩
          · exact Par.val_of_run rfl ⟨Ext.refl _, hk.1⟩
          refine ⟨⟨fun _ _ u hu => .inl hu, fun ρ w' hX hG hk => ?_⟩, ?_⟩
          · exact Par.val_of_run rfl ⟨Ext.refl _, hk.1⟩
          refine ⟨⟨fun _ _ u hu => .inl hu, fun ρ w' hX hG hk => ?_⟩, ?_⟩
          · obtain ⟨k0, k1, k2, -⟩ := hk
            have e0 : ρ (.tmp 127) = Value.agg #[.int .i64 kind, .slice uo un uc, .string (str text)] := k0
            have e1 : ρ (.tmp 128) = uv sg2 := k1
            have e2 : ρ (.tmp 129) = uv at2 := k2
            clear k0 k1 k2
            refine Par.val_k fun K hK => ?_
            unfold Par.val
            (go_simp; exact hK _ _ ⟨Ext.refl _, rfl⟩)
          refine ⟨⟨fun _ _ u hu => .inl hu, fun ρ w' hX hG hk => ?_⟩, ?_⟩
          · obtain ⟨k0, -⟩ := hk
            have e0 : ρ (.tmp 130) = Value.agg #[.int .i64 kind, .slice uo un uc, .string (str text), uv sg2, uv at2] := k0
            clear k0
            refine Par.val_k fun K hK => ?_
            unfold Par.val
            (go_simp; exact hK _ _ ⟨Ext.alloc _ _, _, rfl, heap_alloc_new _ _⟩)
          refine ⟨⟨fun _ _ u hu => .inl hu, fun ρ w' hX hG hk => ?_⟩, ?_⟩
          · obtain ⟨k0, k1, -⟩ := hk
            have e0 : ρ (.tmp 126) = Value.slice (some pa) k k := k0
            have e1 : (fun v w' => ∃ gg, v = Value.slice (some ⟨gg, 0, none⟩) 1 1 ∧ w'.heap[gg]? = some (.cells (plcells (⟨⟨kind, rn, text⟩, sg2, at2⟩, .slice uo un uc)).toArray 37 (0, 0))) (ρ (.tmp 131)) w' := k1
            clear k0 k1
            refine Par.val_k fun K hK => ?_
            unfold Par.val
            (obtain ⟨gg, e1b, hg⟩ := e1; obtain ⟨v9, w9, r1, r2, r3⟩ := pls_more (HPLS.out.ext hX) HK50.out (q := (⟨⟨kind, rn, text⟩, sg2, at2⟩, .slice uo un uc)) (HUV.out.ext hX) hg _; rw [← e0, ← e1b] at r1; exact val_app15 r1 (hK _ _ ⟨r3, r2⟩))
          refine ⟨⟨fun _ _ u hu => .inl hu, fun ρ w' hX hG hk => ?_⟩, ?_⟩
          · obtain ⟨k0, k1, k2, -⟩ := hk
            have e0 := k0
            have e1 : ρ (.tmp 122) = pv b7 := k1
            have e2 : (fun v w' => Pls w' v (ps.take k ++ [((⟨⟨kind, rn, text⟩, sg2, at2⟩, .slice uo un uc) : Plc × Value)])) (ρ (.tmp 132)) w' := k2
            clear k0 k1 k2
            refine Par.val_k fun K hK => ?_
            unfold Par.val
            have e3 : Pls w' (ρ (.tmp 132)) (ps.take k ++ [((⟨⟨kind, rn, text⟩, sg2, at2⟩, .slice uo un uc) : Plc × Value)]) := e2
            refine Par.val_call Tryd.func9 (by kernel_rfl) rfl e0 ?_
            simp only [List.map_toArray, List.map_cons, List.map_nil, e1]
            refine (there_any (ρ (.tmp 132)) _ (L10.out.ext hX) e3 HRDS.out (Pw.ext15 HP.out (HE1.out.trans (HX10.out.trans hX))) (HT.out.ext (HE1.out.trans (HX10.out.trans hX)))).mono ?_
            rintro e w2 ⟨rfl, hx9⟩
            exact ⟨_, rfl, hK _ _ ⟨hx9, rfl⟩⟩
          refine ⟨⟨fun _ _ => trivial, fun ρ w' hX hG hk => ?_⟩, ?_⟩
          · obtain ⟨k0, k1, k2, -⟩ := hk
            have e0 : ρ (.tmp 121) = Value.bool true := k0
            have e1 : ρ (.tmp 133) = Value.bool true := k1
            have e2 : ρ (Operand.const (Value.bool false)) = (Value.bool false) := k2
            clear k0 k1 k2
            refine Par.val_k fun K hK => ?_
            unfold Par.val
            (go_simp; exact hK _ _ ⟨Ext.refl _, rfl⟩)
          refine ⟨⟨fun _ _ => trivial, fun ρ w' hX hG hk => ?_⟩, ?_⟩
          · exact Par.val_of_run rfl ⟨Ext.refl _, hk.1⟩
          refine ⟨⟨fun _ _ u hu => .inl hu, fun ρ w' hX hG hk => ?_⟩, ?_⟩
          · exact Par.val_of_run rfl ⟨Ext.refl _, hk.1⟩
          refine ⟨⟨fun _ _ u hu => .inl hu, fun ρ w' hX hG hk => ?_⟩, ?_⟩
          · obtain ⟨k0, -⟩ := hk
            have e0 : ρ (.tmp 15) = Value.pointer (some ⟨xb, 0, none⟩) := k0
            clear k0
            refine Par.val_k fun K hK => ?_
            unfold Par.val
            (go_simp; exact hK _ _ ⟨Ext.refl _, rfl⟩)
          refine ⟨⟨fun _ _ u hu => .inl hu, fun ρ w' hX hG hk => ?_⟩, ?_⟩
          · obtain ⟨k0, -⟩ := hk
            have e0 : ρ (.tmp 137) = Value.pointer (some ⟨xb, 3, none⟩) := k0
            clear k0
            refine Par.val_k fun K hK => ?_
            unfold Par.val
            (obtain ⟨-, -, -, q3, -, -⟩ := blk5' (hX.obj HXB10.out); go_simp; exact hK _ _ ⟨Ext.refl _, rfl⟩)
          refine ⟨⟨fun _ _ u hu => .inl hu, fun ρ w' hX hG hk => ?_⟩, ?_⟩
          · obtain ⟨k0, k1, -⟩ := hk
            have e0 : ρ (.tmp 136) = uv sg2 := k0
            have e1 : ρ (.tmp 138) = uv sg2 := k1
            clear k0 k1
            refine Par.val_k fun K hK => ?_
            unfold Par.val
            (go_simp; exact hK _ _ ⟨Ext.refl _, rfl⟩)
          refine ⟨⟨fun _ _ u hu => .inl hu, fun ρ w' hX hG hk => ?_⟩, ?_⟩
          · exact Par.val_of_run rfl ⟨Ext.refl _, hk.1⟩
          refine ⟨⟨fun _ _ u hu => .inl hu, fun ρ w' hX hG hk => ?_⟩, ?_⟩
          · exact Par.val_of_run rfl ⟨Ext.refl _, hk.1⟩
          refine ⟨⟨fun _ _ u hu => .inl hu, fun ρ w' hX hG hk => ?_⟩, ?_⟩
          · obtain ⟨k0, -⟩ := hk
            have e0 : ρ (.tmp 15) = Value.pointer (some ⟨xb, 0, none⟩) := k0
            clear k0
            refine Par.val_k fun K hK => ?_
            unfold Par.val
            (go_simp; exact hK _ _ ⟨Ext.refl _, rfl⟩)
          refine ⟨⟨fun _ _ u hu => .inl hu, fun ρ w' hX hG hk => ?_⟩, ?_⟩
          · obtain ⟨k0, -⟩ := hk
            have e0 : ρ (.tmp 142) = Value.pointer (some ⟨xb, 4, none⟩) := k0
            clear k0
            refine Par.val_k fun K hK => ?_
            unfold Par.val
            (obtain ⟨-, -, -, -, q4, -⟩ := blk5' (hX.obj HXB10.out); go_simp; exact hK _ _ ⟨Ext.refl _, rfl⟩)
          refine ⟨⟨fun _ _ u hu => .inl hu, fun ρ w' hX hG hk => ?_⟩, ?_⟩
          · obtain ⟨k0, k1, -⟩ := hk
            have e0 : ρ (.tmp 141) = uv at2 := k0
            have e1 : ρ (.tmp 143) = uv at2 := k1
            clear k0 k1
            refine Par.val_k fun K hK => ?_
            unfold Par.val
            (go_simp; exact hK _ _ ⟨Ext.refl _, rfl⟩)
          refine ⟨⟨fun _ _ u hu => .inl hu, fun ρ w' hX hG hk => ?_⟩, ?_⟩
          · obtain ⟨k0, k1, k2, -⟩ := hk
            have e0 : ρ (.tmp 140) = Value.bool true := k0
            have e1 : ρ (.tmp 144) = Value.bool true := k1
            have e2 : ρ (Operand.const (Value.bool false)) = (Value.bool false) := k2
            clear k0 k1 k2
            refine Par.val_k fun K hK => ?_
            unfold Par.val
            (go_simp; exact hK _ _ ⟨Ext.refl _, rfl⟩)
          refine ⟨⟨fun _ _ u hu => .inl hu, fun ρ w' hX hG hk => ?_⟩, ?_⟩
          · exact Par.val_of_run rfl ⟨Ext.refl _, hk.1⟩
          refine ⟨⟨fun _ _ u hu => .inr rfl, fun ρ w' hX hG hk => ?_⟩, ?_⟩
          · cases hG
          refine ⟨⟨fun _ _ u hu => .inr rfl, fun ρ w' hX hG hk => ?_⟩, ?_⟩
          · cases hG
          refine ⟨⟨fun _ _ u hu => .inr rfl, fun ρ w' hX hG hk => ?_⟩, ?_⟩
          · cases hG
          refine ⟨⟨fun _ _ u hu => .inr rfl, fun ρ w' hX hG hk => ?_⟩, ?_⟩
          · cases hG
          refine ⟨⟨fun _ _ u hu => .inr rfl, fun ρ w' hX hG hk => ?_⟩, ?_⟩
          · cases hG
          refine ⟨⟨fun _ _ u hu => .inr rfl, fun ρ w' hX hG hk => ?_⟩, ?_⟩
          · cases hG
          refine ⟨⟨fun _ _ u hu => .inr rfl, fun ρ w' hX hG hk => ?_⟩, ?_⟩
          · cases hG
          refine ⟨⟨fun _ _ u hu => .inr rfl, fun ρ w' hX hG hk => ?_⟩, ?_⟩
          · cases hG
          refine ⟨⟨fun _ _ u hu => .inr rfl, fun ρ w' hX hG hk => ?_⟩, ?_⟩
          · cases hG
          refine ⟨⟨fun _ _ u hu => .inl hu, fun ρ w' hX hG hk => ?_⟩, ?_⟩
          · obtain ⟨k0, k1, k2, -⟩ := hk
            have e0 : ρ (.tmp 146) = Value.bool true := k0
            have e1 : ρ (Operand.const (Value.bool true)) = (Value.bool true) := k1
            have e2 : ρ (.tmp 155) = undef := k2
            clear k0 k1 k2
            refine Par.val_k fun K hK => ?_
            unfold Par.val
            (go_simp; exact hK _ _ ⟨Ext.refl _, rfl⟩)
          refine ⟨⟨fun _ _ => trivial, fun ρ w' hX hG hk => ?_⟩, ?_⟩
          · obtain ⟨k0, k1, k2, -⟩ := hk
            have e0 : ρ (.tmp 135) = Value.bool true := k0
            have e1 : ρ (.tmp 156) = Value.bool true := k1
            have e2 : ρ (Operand.const (Value.bool false)) = (Value.bool false) := k2
            clear k0 k1 k2
            refine Par.val_k fun K hK => ?_
            unfold Par.val
            (go_simp; exact hK _ _ ⟨Ext.refl _, rfl⟩)
          refine ⟨⟨fun _ _ => trivial, fun ρ w' hX hG hk => ?_⟩, ?_⟩
          · exact Par.val_of_run rfl ⟨Ext.refl _, hk.1⟩
          trivial
        intro a' w' inv
        have hX := inv.ext
        have q119 : a'.tmps.getD 119 undef = Value.int IntKind.i64 0 := inv.done 0 _ 119 rfl rfl rfl
        have q120 : a'.tmps.getD 120 undef = Value.bool true := inv.done 1 _ 120 rfl rfl rfl
        have q121 : a'.tmps.getD 121 undef = Value.bool true := inv.done 2 _ 121 rfl rfl rfl
        have q122 : a'.tmps.getD 122 undef = pv b7 := inv.done 3 _ 122 rfl rfl rfl
        have q123 : a'.tmps.getD 123 undef = Value.slice (some pa) pn pc := inv.done 4 _ 123 rfl rfl rfl
        have q124 : a'.tmps.getD 124 undef = Value.int IntKind.i64 (k : Int) := inv.done 5 _ 124 rfl rfl rfl
        have q125 : a'.tmps.getD 125 undef = Value.int IntKind.i64 (k : Int) := inv.done 6 _ 125 rfl rfl rfl
        have q126 : a'.tmps.getD 126 undef = Value.slice (some pa) k k := inv.done 7 _ 126 rfl rfl rfl
        have q127 : a'.tmps.getD 127 undef = Value.agg #[.int .i64 kind, .slice uo un uc, .string (str text)] := inv.done 8 _ 127 rfl rfl rfl
        have q128 : a'.tmps.getD 128 undef = uv sg2 := inv.done 9 _ 128 rfl rfl rfl
        have q129 : a'.tmps.getD 129 undef = uv at2 := inv.done 10 _ 129 rfl rfl rfl
        have q130 : a'.tmps.getD 130 undef = Value.agg #[.int .i64 kind, .slice uo un uc, .string (str text), uv sg2, uv at2] := inv.done 11 _ 130 rfl rfl rfl
        have q131 : (fun v w' => ∃ gg, v = Value.slice (some ⟨gg, 0, none⟩) 1 1 ∧ w'.heap[gg]? = some (.cells (plcells (⟨⟨kind, rn, text⟩, sg2, at2⟩, .slice uo un uc)).toArray 37 (0, 0))) (a'.tmps.getD 131 undef) w' := inv.done 12 _ 131 rfl rfl rfl
        have q132 : (fun v w' => Pls w' v (ps.take k ++ [((⟨⟨kind, rn, text⟩, sg2, at2⟩, .slice uo un uc) : Plc × Value)])) (a'.tmps.getD 132 undef) w' := inv.done 13 _ 132 rfl rfl rfl
        have q133 : a'.tmps.getD 133 undef = Value.bool true := inv.done 14 _ 133 rfl rfl rfl
        have q134 : a'.tmps.getD 134 undef = Value.bool true := inv.done 15 _ 134 rfl rfl rfl
        have q135 : a'.tmps.getD 135 undef = Value.bool true := inv.done 16 _ 135 rfl rfl rfl
        have q136 : a'.tmps.getD 136 undef = uv sg2 := inv.done 17 _ 136 rfl rfl rfl
        have q137 : a'.tmps.getD 137 undef = Value.pointer (some ⟨xb, 3, none⟩) := inv.done 18 _ 137 rfl rfl rfl
        have q138 : a'.tmps.getD 138 undef = uv sg2 := inv.done 19 _ 138 rfl rfl rfl
        have q139 : a'.tmps.getD 139 undef = Value.bool true := inv.done 20 _ 139 rfl rfl rfl
        have q140 : a'.tmps.getD 140 undef = Value.bool true := inv.done 21 _ 140 rfl rfl rfl
        have q141 : a'.tmps.getD 141 undef = uv at2 := inv.done 22 _ 141 rfl rfl rfl
        have q142 : a'.tmps.getD 142 undef = Value.pointer (some ⟨xb, 4, none⟩) := inv.done 23 _ 142 rfl rfl rfl
        have q143 : a'.tmps.getD 143 undef = uv at2 := inv.done 24 _ 143 rfl rfl rfl
        have q144 : a'.tmps.getD 144 undef = Value.bool true := inv.done 25 _ 144 rfl rfl rfl
        have q145 : a'.tmps.getD 145 undef = Value.bool true := inv.done 26 _ 145 rfl rfl rfl
        have q146 : a'.tmps.getD 146 undef = Value.bool true := inv.done 27 _ 146 rfl rfl rfl
        have q147 : a'.tmps.getD 147 undef = undef := inv.done 28 _ 147 rfl rfl rfl
        have q148 : a'.tmps.getD 148 undef = undef := inv.done 29 _ 148 rfl rfl rfl
        have q149 : a'.tmps.getD 149 undef = undef := inv.done 30 _ 149 rfl rfl rfl
        have q150 : a'.tmps.getD 150 undef = undef := inv.done 31 _ 150 rfl rfl rfl
        have q151 : a'.tmps.getD 151 undef = undef := inv.done 32 _ 151 rfl rfl rfl
        have q152 : a'.tmps.getD 152 undef = undef := inv.done 33 _ 152 rfl rfl rfl
        have q153 : a'.tmps.getD 153 undef = undef := inv.done 34 _ 153 rfl rfl rfl
        have q154 : a'.tmps.getD 154 undef = undef := inv.done 35 _ 154 rfl rfl rfl
        have q155 : a'.tmps.getD 155 undef = undef := inv.done 36 _ 155 rfl rfl rfl
        have q156 : a'.tmps.getD 156 undef = Value.bool true := inv.done 37 _ 156 rfl rfl rfl
        have q157 : a'.tmps.getD 157 undef = Value.bool true := inv.done 38 _ 157 rfl rfl rfl
        have q10 : a'.tmps.getD 10 undef = Value.bool true := inv.done 39 _ 10 rfl rfl rfl
        clear inv
        simp only [List.filterMap_cons, List.filterMap_nil, Par.putAll, Act.put, List.setIfInBounds_toArray, List.set_cons_succ, List.set_cons_zero, q119, q120, q121, q122, q123, q124, q125, q126, q127, q128, q129, q130, q133, q134, q135, q136, q137, q138, q139, q140, q141, q142, q143, q144, q145, q146, q147, q148, q149, q150, q151, q152, q153, q154, q155, q156, q157, q10]
        clear q119 q120 q121 q122 q123 q124 q125 q126 q127 q128 q129 q130 q133 q134 q135 q136 q137 q138 q139 q140 q141 q142 q143 q144 q145 q146 q147 q148 q149 q150 q151 q152 q153 q154 q155 q156 q157 q10
        generalize a'.tmps.getD 131 undef = u131 at *
        generalize a'.tmps.getD 132 undef = u132 at *
        clear a'
        go_wp2
        go_returns
        exact ⟨rfl, HE1.out.trans (HX10.out.trans hX)⟩
      · have HNE : Hid (((sg2.toNat : Int) == (xs.toNat : Int)) = false) := hid (by
          rw [hsg, UInt64.toNat_add, show (1 : UInt64).toNat = 1 from rfl]
          have := HSL.out
          have := HLA.out
          simp only [beq_eq_false_iff_ne, ne_eq]
          omega)
        have HWR : Hid (IntKind.u64.wrap ((xs.toNat : Int) + 1) = (sg2.toNat : Int)) := hid (by rw [hsg]; exact wrap_succ xs)
        have HA0 : Hid (((at2.toNat : Int) == (0 : Int)) = true) := hid (by rw [hat]; rfl)
        clear hsg hat
        go_wp2_with fail
        refine Par.wp_region_par (l := [_, _, _, _, _, _, _, _, _, _, _, _, _, _, _, _, _, _, _, _, _, _, _, _, _, _, _, _, _, _, _, _, _, _, _, _, _, _, _, _]) rfl Ext (Par.VL [Par.EQ (Value.int IntKind.i64 0), Par.EQ (Value.bool true), Par.EQ (Value.bool true), Par.EQ (pv b7), Par.EQ (Value.slice (some pa) pn pc), Par.EQ (Value.int IntKind.i64 (k : Int)), Par.EQ (Value.int IntKind.i64 (k : Int)), Par.EQ (Value.slice (some pa) k k), Par.EQ (Value.agg #[.int .i64 kind, .slice uo un uc, .string (str text)]), Par.EQ (uv sg2), Par.EQ (uv at2), Par.EQ (Value.agg #[.int .i64 kind, .slice uo un uc, .string (str text), uv sg2, uv at2]), (fun v w' => ∃ gg, v = Value.slice (some ⟨gg, 0, none⟩) 1 1 ∧ w'.heap[gg]? = some (.cells (plcells (⟨⟨kind, rn, text⟩, sg2, at2⟩, .slice uo un uc)).toArray 37 (0, 0))), (fun v w' => Pls w' v (ps.take k ++ [((⟨⟨kind, rn, text⟩, sg2, at2⟩, .slice uo un uc) : Plc × Value)])), Par.EQ (Value.bool true), Par.EQ (Value.bool true), Par.EQ (Value.bool true), Par.EQ (uv sg2), Par.EQ (Value.pointer (some ⟨xb, 3, none⟩)), Par.EQ (uv xs), Par.EQ (Value.bool false), Par.EQ (Value.bool false), Par.EQ (undef), Par.EQ (undef), Par.EQ (undef), Par.EQ (undef), Par.EQ (Value.bool false), Par.EQ (Value.bool false), Par.EQ (uv sg2), Par.EQ (Value.pointer (some ⟨xb, 3, none⟩)), Par.EQ (uv xs), Par.EQ (uv sg2), Par.EQ (Value.bool true), Par.EQ (Value.bool true), Par.EQ (uv at2), Par.EQ (Value.bool true), Par.EQ (Value.bool true), Par.EQ (Value.bool true), Par.EQ (Value.bool true), Par.EQ (Value.bool true)]) (by kernel_rfl) Ext.refl (fun _ _ _ h1 h2 => Ext.trans h1 h2) (Ext.draw _) (Par.VL_stab ?_) ?_ ?_
        · simp only [List.forall_mem_cons, List.not_mem_nil, false_implies, implies_true, and_true]
          refine ⟨fun _ _ _ _ h => h, fun _ _ _ _ h => h, fun _ _ _ _ h => h, fun _ _ _ _ h => h, fun _ _ _ _ h => h, fun _ _ _ _ h => h, fun _ _ _ _ h => h, fun _ _ _ _ h => h, fun _ _ _ _ h => h, fun _ _ _ _ h => h, fun _ _ _ _ h => h, fun _ _ _ _ h => h, fun v a b k hh => (by obtain ⟨gg, h1, h2⟩ := hh; exact ⟨gg, h1, k.obj h2⟩), fun v a b k hh => hh.ext k, fun _ _ _ _ h => h, fun _ _ _ _ h => h, fun _ _ _ _ h => h, fun _ _ _ _ h => h, fun _ _ _ _ h => h, fun _ _ _ _ h => h, fun _ _ _ _ h => h, fun _ _ _ _ h => h, fun _ _ _ _ h => h, fun _ _ _ _ h => h, fun _ _ _ _ h => h, fun _ _ _ _ h => h, fun _ _ _ _ h => h, fun _ _ _ _ h => h, fun _ _ _ _ h => h, fun _ _ _ _ h => h, fun _ _ _ _ h => h, fun _ _ _ _ h => h, fun _ _ _ _ h => h, fun _ _ _ _ h => h, fun _ _ _ _ h => h, fun _ _ _ _ h => h, fun _ _ _ _ h => h, fun _ _ _ _ h => h, fun _ _ _ _ h => h, fun _ _ _ _ h => h⟩
        · refine ⟨⟨fun _ _ => trivial, fun ρ w' hX hG hk => ?_⟩, ?_⟩
          · exact Par.val_of_run rfl ⟨Ext.refl _, hk.1⟩
          refine ⟨⟨fun _ _ => trivial, fun ρ w' hX hG hk => ?_⟩, ?_⟩
          · obtain ⟨k0, k1, -⟩ := hk
            have e0 : ρ (.tmp 119) = Value.int IntKind.i64 0 := k0
            have e1 : ρ (Operand.const (Value.int IntKind.i64 0)) = (Value.int IntKind.i64 0) := k1
            clear k0 k1
            refine Par.val_k fun K hK => ?_
            unfold Par.val
            (go_simp; exact hK _ _ ⟨Ext.refl _, rfl⟩)
          refine ⟨⟨fun _ _ => trivial, fun ρ w' hX hG hk => ?_⟩, ?_⟩
          · exact Par.val_of_run rfl ⟨Ext.refl _, hk.1⟩
          refine ⟨⟨fun _ _ u hu => .inl hu, fun ρ w' hX hG hk => ?_⟩, ?_⟩
          · exact Par.val_of_run rfl ⟨Ext.refl _, hk.1⟩
          refine ⟨⟨fun _ _ u hu => .inl hu, fun ρ w' hX hG hk => ?_⟩, ?_⟩
          · exact Par.val_of_run rfl ⟨Ext.refl _, hk.1⟩
          refine ⟨⟨fun _ _ u hu => .inl hu, fun ρ w' hX hG hk => ?_⟩, ?_⟩
          · exact Par.val_of_run rfl ⟨Ext.refl _, hk.1⟩
          refine ⟨⟨fun _ _ u hu => .inl hu, fun ρ w' hX hG hk => ?_⟩, ?_⟩
          · exact Par.val_of_run rfl ⟨Ext.refl _, hk.1⟩
          refine ⟨⟨fun _ _ u hu => .inl hu, fun ρ w' hX hG hk => ?_⟩, ?_⟩
          · obtain ⟨k0, k1, k2, -⟩ := hk
            have e0 : ρ (.tmp 123) = Value.slice (some pa) pn pc := k0
            have e1 : ρ (.tmp 124) = Value.int IntKind.i64 (k : Int) := k1
            have e2 : ρ (.tmp 125) = Value.int IntKind.i64 (k : Int) := k2
            clear k0 k1 k2
            refine Par.val_k fun K hK => ?_
            unfold Par.val
            (go_simp; exact hK _ _ ⟨Ext.refl _, rfl⟩)
          refine ⟨⟨fun _ _ u hu => .inl hu, fun ρ w' hX hG hk => ?_⟩, ?_⟩
          · obtain ⟨k0, -⟩ := hk
            have e0 : ρ (.tmp 9) = Value.pointer (some ⟨rb, 0, none⟩) := k0
            clear k0
            refine Par.val_k fun K hK => ?_
            unfold Par.val
            (obtain ⟨q0, q1, q2, -⟩ := lk3 (hX.obj HB10.out); go_simp; exact hK _ _ ⟨Ext.refl _, rfl⟩)
          refine ⟨⟨fun _ _ u hu => .inl hu, fun ρ w' hX hG hk => ?_⟩, ?_⟩
          · exact Par.val_of_run rfl ⟨Ext.refl _, hk.1⟩
          refine ⟨⟨fun _ _ u hu => .inl hu, fun ρ w' hX hG hk => ?_⟩, ?_⟩
          · exact Par.val_of_run rfl ⟨Ext.refl _, hk.1⟩
          refine ⟨⟨fun _ _ u hu => .inl hu, fun ρ w' hX hG hk => ?_⟩, ?_⟩
          · obtain ⟨k0, k1, k2, -⟩ := hk
            have e0 : ρ (.tmp 127) = Value.agg #[.int .i64 kind, .slice uo un uc, .string (str text)] := k0
            have e1 : ρ (.tmp 128) = uv sg2 := k1
            have e2 : ρ (.tmp 129) = uv at2 := k2
            clear k0 k1 k2
            refine Par.val_k fun K hK => ?_
            unfold Par.val
            (go_simp; exact hK _ _ ⟨Ext.refl _, rfl⟩)
          refine ⟨⟨fun _ _ u hu => .inl hu, fun ρ w' hX hG hk => ?_⟩, ?_⟩
          · obtain ⟨k0, -⟩ := hk
            have e0 : ρ (.tmp 130) = Value.agg #[.int .i64 kind, .slice uo un uc, .string (str text), uv sg2, uv at2] := k0
            clear k0
            refine Par.val_k fun K hK => ?_
            unfold Par.val
            (go_simp; exact hK _ _ ⟨Ext.alloc _ _, _, rfl, heap_alloc_new _ _⟩)
          refine ⟨⟨fun _ _ u hu => .inl hu, fun ρ w' hX hG hk => ?_⟩, ?_⟩
          · obtain ⟨k0, k1, -⟩ := hk
            have e0 : ρ (.tmp 126) = Value.slice (some pa) k k := k0
            have e1 : (fun v w' => ∃ gg, v = Value.slice (some ⟨gg, 0, none⟩) 1 1 ∧ w'.heap[gg]? = some (.cells (plcells (⟨⟨kind, rn, text⟩, sg2, at2⟩, .slice uo un uc)).toArray 37 (0, 0))) (ρ (.tmp 131)) w' := k1
            clear k0 k1
            refine Par.val_k fun K hK => ?_
            unfold Par.val
            (obtain ⟨gg, e1b, hg⟩ := e1; obtain ⟨v9, w9, r1, r2, r3⟩ := pls_more (HPLS.out.ext hX) HK50.out (q := (⟨⟨kind, rn, text⟩, sg2, at2⟩, .slice uo un uc)) (HUV.out.ext hX) hg _; rw [← e0, ← e1b] at r1; exact val_app15 r1 (hK _ _ ⟨r3, r2⟩))
          refine ⟨⟨fun _ _ u hu => .inl hu, fun ρ w' hX hG hk => ?_⟩, ?_⟩
          · obtain ⟨k0, k1, k2, -⟩ := hk
            have e0 := k0
            have e1 : ρ (.tmp 122) = pv b7 := k1
            have e2 : (fun v w' => Pls w' v (ps.take k ++ [((⟨⟨kind, rn, text⟩, sg2, at2⟩, .slice uo un uc) : Plc × Value)])) (ρ (.tmp 132)) w' := k2
            clear k0 k1 k2
            refine Par.val_k fun K hK => ?_
            unfold Par.val
            have e3 : Pls w' (ρ (.tmp 132)) (ps.take k ++ [((⟨⟨kind, rn, text⟩, sg2, at2⟩, .slice uo un uc) : Plc × Value)]) := e2
            refine Par.val_call Tryd.func9 (by kernel_rfl) rfl e0 ?_
            simp only [List.map_toArray, List.map_cons, List.map_nil, e1]
            refine (there_any (ρ (.tmp 132)) _ (L10.out.ext hX) e3 HRDS.out (Pw.ext15 HP.out (HE1.out.trans (HX10.out.trans hX))) (HT.out.ext (HE1.out.trans (HX10.out.trans hX)))).mono ?_
            rintro e w2 ⟨rfl, hx9⟩
            exact ⟨_, rfl, hK _ _ ⟨hx9, rfl⟩⟩
          refine ⟨⟨fun _ _ => trivial, fun ρ w' hX hG hk => ?_⟩, ?_⟩
          · obtain ⟨k0, k1, k2, -⟩ := hk
            have e0 : ρ (.tmp 121) = Value.bool true := k0
            have e1 : ρ (.tmp 133) = Value.bool true := k1
            have e2 : ρ (Operand.const (Value.bool false)) = (Value.bool false) := k2
            clear k0 k1 k2
            refine Par.val_k fun K hK => ?_
            unfold Par.val
            (go_simp; exact hK _ _ ⟨Ext.refl _, rfl⟩)
          refine ⟨⟨fun _ _ => trivial, fun ρ w' hX hG hk => ?_⟩, ?_⟩
          · exact Par.val_of_run rfl ⟨Ext.refl _, hk.1⟩
          refine ⟨⟨fun _ _ u hu => .inl hu, fun ρ w' hX hG hk => ?_⟩, ?_⟩
          · exact Par.val_of_run rfl ⟨Ext.refl _, hk.1⟩
          refine ⟨⟨fun _ _ u hu => .inl hu, fun ρ w' hX hG hk => ?_⟩, ?_⟩
          · obtain ⟨k0, -⟩ := hk
            have e0 : ρ (.tmp 15) = Value.pointer (some ⟨xb, 0, none⟩) := k0
            clear k0
            refine Par.val_k fun K hK => ?_
            unfold Par.val
            (go_simp; exact hK _ _ ⟨Ext.refl _, rfl⟩)
          refine ⟨⟨fun _ _ u hu => .inl hu, fun ρ w' hX hG hk => ?_⟩, ?_⟩
          · obtain ⟨k0, -⟩ := hk
            have e0 : ρ (.tmp 137) = Value.pointer (some ⟨xb, 3, none⟩) := k0
            clear k0
            refine Par.val_k fun K hK => ?_
            unfold Par.val
            (obtain ⟨-, -, -, q3, -, -⟩ := blk5' (hX.obj HXB10.out); go_simp; exact hK _ _ ⟨Ext.refl _, rfl⟩)
          refine ⟨⟨fun _ _ u hu => .inl hu, fun ρ w' hX hG hk => ?_⟩, ?_⟩
          · obtain ⟨k0, k1, -⟩ := hk
            have e0 : ρ (.tmp 136) = uv sg2 := k0
            have e1 : ρ (.tmp 138) = uv xs := k1
            clear k0 k1
            refine Par.val_k fun K hK => ?_
            unfold Par.val
            (have hne := HNE.out; go_simp; exact hK _ _ ⟨Ext.refl _, rfl⟩)
          refine ⟨⟨fun _ _ u hu => .inl hu, fun ρ w' hX hG hk => ?_⟩, ?_⟩
          · obtain ⟨k0, -⟩ := hk
            have e0 : ρ (.tmp 139) = Value.bool false := k0
            clear k0
            refine Par.val_k fun K hK => ?_
            unfold Par.val
            (go_simp; exact hK _ _ ⟨Ext.refl _, rfl⟩)
          refine ⟨⟨fun _ _ u hu => .inr rfl, fun ρ w' hX hG hk => ?_⟩, ?_⟩
          · cases hG
          refine ⟨⟨fun _ _ u hu => .inr rfl, fun ρ w' hX hG hk => ?_⟩, ?_⟩
          · cases hG
          refine ⟨⟨fun _ _ u hu => .inr rfl, fun ρ w' hX hG hk => ?_⟩, ?_⟩
          · cases hG
          refine ⟨⟨fun _ _ u hu => .inr rfl, fun ρ w' hX hG hk => ?_⟩, ?_⟩
          · cases hG
          refine ⟨⟨fun _ _ u hu => .inl hu, fun ρ w' hX hG hk => ?_⟩, ?_⟩
          · obtain ⟨k0, k1, k2, -⟩ := hk
            have e0 : ρ (.tmp 140) = Value.bool false := k0
            have e1 : ρ (.tmp 144) = undef := k1
            have e2 : ρ (Operand.const (Value.bool false)) = (Value.bool false) := k2
            clear k0 k1 k2
            refine Par.val_k fun K hK => ?_
            unfold Par.val
            (go_simp; exact hK _ _ ⟨Ext.refl _, rfl⟩)
          refine ⟨⟨fun _ _ u hu => .inl hu, fun ρ w' hX hG hk => ?_⟩, ?_⟩
          · obtain ⟨k0, -⟩ := hk
            have e0 : ρ (.tmp 145) = Value.bool false := k0
            clear k0
            refine Par.val_k fun K hK => ?_
            unfold Par.val
            (go_simp; exact hK _ _ ⟨Ext.refl _, rfl⟩)
          refine ⟨⟨fun _ _ u hu => .inl hu, fun ρ w' hX hG hk => ?_⟩, ?_⟩
          · exact Par.val_of_run rfl ⟨Ext.refl _, hk.1⟩
          refine ⟨⟨fun _ _ u hu => .inl hu, fun ρ w' hX hG hk => ?_⟩, ?_⟩
          · obtain ⟨k0, -⟩ := hk
            have e0 : ρ (.tmp 15) = Value.pointer (some ⟨xb, 0, none⟩) := k0
            clear k0
            refine Par.val_k fun K hK => ?_
            unfold Par.val
            (go_simp; exact hK _ _ ⟨Ext.refl _, rfl⟩)
          refine ⟨⟨fun _ _ u hu => .inl hu, fun ρ w' hX hG hk => ?_⟩, ?_⟩
          · obtain ⟨k0, -⟩ := hk
            have e0 : ρ (.tmp 148) = Value.pointer (some ⟨xb, 3, none⟩) := k0
            clear k0
            refine Par.val_k fun K hK => ?_
            unfold Par.val
            (obtain ⟨-, -, -, q3, -, -⟩ := blk5' (hX.obj HXB10.out); go_simp; exact hK _ _ ⟨Ext.refl _, rfl⟩)
          refine ⟨⟨fun _ _ u hu => .inl hu, fun ρ w' hX hG hk => ?_⟩, ?_⟩
          · obtain ⟨k0, k1, -⟩ := hk
            have e0 : ρ (.tmp 149) = uv xs := k0
            have e1 : ρ (Operand.const (Value.int IntKind.u64 1)) = (Value.int IntKind.u64 1) := k1
            clear k0 k1
            refine Par.val_k fun K hK => ?_
            unfold Par.val
            (have hwr := HWR.out; go_simp; exact hK _ _ ⟨Ext.refl _, rfl⟩)
          refine ⟨⟨fun _ _ u hu => .inl hu, fun ρ w' hX hG hk => ?_⟩, ?_⟩
          · obtain ⟨k0, k1, -⟩ := hk
            have e0 : ρ (.tmp 147) = uv sg2 := k0
            have e1 : ρ (.tmp 150) = uv sg2 := k1
            clear k0 k1
            refine Par.val_k fun K hK => ?_
            unfold Par.val
            (go_simp; exact hK _ _ ⟨Ext.refl _, rfl⟩)
          refine ⟨⟨fun _ _ u hu => .inl hu, fun ρ w' hX hG hk => ?_⟩, ?_⟩
          · exact Par.val_of_run rfl ⟨Ext.refl _, hk.1⟩
          refine ⟨⟨fun _ _ u hu => .inl hu, fun ρ w' hX hG hk => ?_⟩, ?_⟩
          · exact Par.val_of_run rfl ⟨Ext.refl _, hk.1⟩
          refine ⟨⟨fun _ _ u hu => .inl hu, fun ρ w' hX hG hk => ?_⟩, ?_⟩
          · obtain ⟨k0, k1, -⟩ := hk
            have e0 : ρ (.tmp 153) = uv at2 := k0
            have e1 : ρ (Operand.const (Value.int IntKind.u64 0)) = (Value.int IntKind.u64 0) := k1
            clear k0 k1
            refine Par.val_k fun K hK => ?_
            unfold Par.val
            (have ha0 := HA0.out; go_simp; exact hK _ _ ⟨Ext.refl _, rfl⟩)
          refine ⟨⟨fun _ _ u hu => .inl hu, fun ρ w' hX hG hk => ?_⟩, ?_⟩
          · obtain ⟨k0, k1, k2, -⟩ := hk
            have e0 : ρ (.tmp 152) = Value.bool true := k0
            have e1 : ρ (.tmp 154) = Value.bool true := k1
            have e2 : ρ (Operand.const (Value.bool false)) = (Value.bool false) := k2
            clear k0 k1 k2
            refine Par.val_k fun K hK => ?_
            unfold Par.val
            (go_simp; exact hK _ _ ⟨Ext.refl _, rfl⟩)
          refine ⟨⟨fun _ _ u hu => .inl hu, fun ρ w' hX hG hk => ?_⟩, ?_⟩
          · obtain ⟨k0, k1, k2, -⟩ := hk
            have e0 : ρ (.tmp 146) = Value.bool false := k0
            have e1 : ρ (Operand.const (Value.bool true)) = (Value.bool true) := k1
            have e2 : ρ (.tmp 155) = Value.bool true := k2
            clear k0 k1 k2
            refine Par.val_k fun K hK => ?_
            unfold Par.val
            (go_simp; exact hK _ _ ⟨Ext.refl _, rfl⟩)
          refine ⟨⟨fun _ _ => trivial, fun ρ w' hX hG hk => ?_⟩, ?_⟩
          · obtain ⟨k0, k1, k2, -⟩ := hk
            have e0 : ρ (.tmp 135) = Value.bool true := k0
            have e1 : ρ (.tmp 156) = Value.bool true := k1
            have e2 : ρ (Operand.const (Value.bool false)) = (Value.bool false) := k2
            clear k0 k1 k2
            refine Par.val_k fun K hK => ?_
            unfold Par.val
            (go_simp; exact hK _ _ ⟨Ext.refl _, rfl⟩)
          refine ⟨⟨fun _ _ => trivial, fun ρ w' hX hG hk => ?_⟩, ?_⟩
          · exact Par.val_of_run rfl ⟨Ext.refl _, hk.1⟩
          trivial
        intro a' w' inv
        have hX := inv.ext
        have q119 : a'.tmps.getD 119 undef = Value.int IntKind.i64 0 := inv.done 0 _ 119 rfl rfl rfl
        have q120 : a'.tmps.getD 120 undef = Value.bool true := inv.done 1 _ 120 rfl rfl rfl
        have q121 : a'.tmps.getD 121 undef = Value.bool true := inv.done 2 _ 121 rfl rfl rfl
        have q122 : a'.tmps.getD 122 undef = pv b7 := inv.done 3 _ 122 rfl rfl rfl
        have q123 : a'.tmps.getD 123 undef = Value.slice (some pa) pn pc := inv.done 4 _ 123 rfl rfl rfl
        have q124 : a'.tmps.getD 124 undef = Value.int IntKind.i64 (k : Int) := inv.done 5 _ 124 rfl rfl rfl
        have q125 : a'.tmps.getD 125 undef = Value.int IntKind.i64 (k : Int) := inv.done 6 _ 125 rfl rfl rfl
        have q126 : a'.tmps.getD 126 undef = Value.slice (some pa) k k := inv.done 7 _ 126 rfl rfl rfl
        have q127 : a'.tmps.getD 127 undef = Value.agg #[.int .i64 kind, .slice uo un uc, .string (str text)] := inv.done 8 _ 127 rfl rfl rfl
        have q128 : a'.tmps.getD 128 undef = uv sg2 := inv.done 9 _ 128 rfl rfl rfl
        have q129 : a'.tmps.getD 129 undef = uv at2 := inv.done 10 _ 129 rfl rfl rfl
        have q130 : a'.tmps.getD 130 undef = Value.agg #[.int .i64 kind, .slice uo un uc, .string (str text), uv sg2, uv at2] := inv.done 11 _ 130 rfl rfl rfl
        have q131 : (fun v w' => ∃ gg, v = Value.slice (some ⟨gg, 0, none⟩) 1 1 ∧ w'.heap[gg]? = some (.cells (plcells (⟨⟨kind, rn, text⟩, sg2, at2⟩, .slice uo un uc)).toArray 37 (0, 0))) (a'.tmps.getD 131 undef) w' := inv.done 12 _ 131 rfl rfl rfl
        have q132 : (fun v w' => Pls w' v (ps.take k ++ [((⟨⟨kind, rn, text⟩, sg2, at2⟩, .slice uo un uc) : Plc × Value)])) (a'.tmps.getD 132 undef) w' := inv.done 13 _ 132 rfl rfl rfl
        have q133 : a'.tmps.getD 133 undef = Value.bool true := inv.done 14 _ 133 rfl rfl rfl
        have q134 : a'.tmps.getD 134 undef = Value.bool true := inv.done 15 _ 134 rfl rfl rfl
        have q135 : a'.tmps.getD 135 undef = Value.bool true := inv.done 16 _ 135 rfl rfl rfl
        have q136 : a'.tmps.getD 136 undef = uv sg2 := inv.done 17 _ 136 rfl rfl rfl
        have q137 : a'.tmps.getD 137 undef = Value.pointer (some ⟨xb, 3, none⟩) := inv.done 18 _ 137 rfl rfl rfl
        have q138 : a'.tmps.getD 138 undef = uv xs := inv.done 19 _ 138 rfl rfl rfl
        have q139 : a'.tmps.getD 139 undef = Value.bool false := inv.done 20 _ 139 rfl rfl rfl
        have q140 : a'.tmps.getD 140 undef = Value.bool false := inv.done 21 _ 140 rfl rfl rfl
        have q141 : a'.tmps.getD 141 undef = undef := inv.done 22 _ 141 rfl rfl rfl
        have q142 : a'.tmps.getD 142 undef = undef := inv.done 23 _ 142 rfl rfl rfl
        have q143 : a'.tmps.getD 143 undef = undef := inv.done 24 _ 143 rfl rfl rfl
        have q144 : a'.tmps.getD 144 undef = undef := inv.done 25 _ 144 rfl rfl rfl
        have q145 : a'.tmps.getD 145 undef = Value.bool false := inv.done 26 _ 145 rfl rfl rfl
        have q146 : a'.tmps.getD 146 undef = Value.bool false := inv.done 27 _ 146 rfl rfl rfl
        have q147 : a'.tmps.getD 147 undef = uv sg2 := inv.done 28 _ 147 rfl rfl rfl
        have q148 : a'.tmps.getD 148 undef = Value.pointer (some ⟨xb, 3, none⟩) := inv.done 29 _ 148 rfl rfl rfl
        have q149 : a'.tmps.getD 149 undef = uv xs := inv.done 30 _ 149 rfl rfl rfl
        have q150 : a'.tmps.getD 150 undef = uv sg2 := inv.done 31 _ 150 rfl rfl rfl
        have q151 : a'.tmps.getD 151 undef = Value.bool true := inv.done 32 _ 151 rfl rfl rfl
        have q152 : a'.tmps.getD 152 undef = Value.bool true := inv.done 33 _ 152 rfl rfl rfl
        have q153 : a'.tmps.getD 153 undef = uv at2 := inv.done 34 _ 153 rfl rfl rfl
        have q154 : a'.tmps.getD 154 undef = Value.bool true := inv.done 35 _ 154 rfl rfl rfl
        have q155 : a'.tmps.getD 155 undef = Value.bool true := inv.done 36 _ 155 rfl rfl rfl
        have q156 : a'.tmps.getD 156 undef = Value.bool true := inv.done 37 _ 156 rfl rfl rfl
        have q157 : a'.tmps.getD 157 undef = Value.bool true := inv.done 38 _ 157 rfl rfl rfl
        have q10 : a'.tmps.getD 10 undef = Value.bool true := inv.done 39 _ 10 rfl rfl rfl
        clear inv
        simp only [List.filterMap_cons, List.filterMap_nil, Par.putAll, Act.put, List.setIfInBounds_toArray, List.set_cons_succ, List.set_cons_zero, q119, q120, q121, q122, q123, q124, q125, q126, q127, q128, q129, q130, q133, q134, q135, q136, q137, q138, q139, q140, q141, q142, q143, q144, q145, q146, q147, q148, q149, q150, q151, q152, q153, q154, q155, q156, q157, q10]
        clear q119 q120 q121 q122 q123 q124 q125 q126 q127 q128 q129 q130 q133 q134 q135 q136 q137 q138 q139 q140 q141 q142 q143 q144 q145 q146 q147 q148 q149 q150 q151 q152 q153 q154 q155 q156 q157 q10
        generalize a'.tmps.getD 131 undef = u131 at *
        generalize a'.tmps.getD 132 undef = u132 at *
        clear a'
        go_wp2
        go_returns
        exact ⟨rfl, HE1.out.trans (HX10.out.trans hX)⟩
end Go.Proofs.YtmbigiihcplcjaaDoor

namespace Go.Proofs.YtmbigiihcplcjaaDoor.seglogCut
open Go.ChangeShapes Go.WideShapes Go.ChangeAt Go.RowKit
open Go.ChangeMaps (open_string shut_string)
set_option linter.unusedVariables false
set_option maxRecDepth 100000

theorem own : ownKnob Tryd.prog.godebug = none := by kernel_rfl
theorem kid1 : laidOutB Tryd.prog = true := by kernel_rfl
theorem kid2 : mapsRowed Tryd.prog = true := by kernel_rfl
theorem kid3 : ((List.range Tryd.prog.types.size).all fun t => match Tryd.prog.underlying t with | some (.slice e) => decide (0 < Tryd.prog.cellsOf e) | _ => true) = true := by kernel_rfl
theorem kid4 : ∀ t ∈ Tryd.f3.params.toList, t < Tryd.prog.types.size := by decide +kernel
theorem gTab : Tryd.prog.globalNamed "internal/strconv.uint64pow10" = some 1 := by kernel_rfl
theorem gTabType : (Tryd.prog.globals[1]?).map (·.type) = some 121 := by kernel_rfl
theorem cellsT : Tryd.prog.cellsOf 121 = 20 := by kernel_rfl
theorem cellsE : Tryd.prog.cellsOf 22 = 1 := by kernel_rfl
theorem powIs : (Rows.laid_internal_strconv_uint64pow10 : DataW Unit) = Lib.tabData .u64 Lib.pow10Tab := by kernel_rfl
theorem table {W : World} (h : laidMetH Tryd.prog Rows.seglogCutRow.laid W) : Pw W := by
  have h' : laidMet Tryd.prog Rows.seglogCutRow.laid W := h
  have hr := Lib.laidMet.reads h' (n := "internal/strconv.uint64pow10") (d := Rows.laid_internal_strconv_uint64pow10) (.tail _ (.tail _ (.head _)))
  rw [powIs] at hr
  obtain ⟨g', t', cs, fuel, p, hg', ht', hvar, hd⟩ := hr
  obtain rfl := Option.some.inj (gTab.symm.trans hg')
  obtain rfl := Option.some.inj (gTabType.symm.trans ht')
  show Lib.TabIs _ _ _ _ _
  unfold Lib.TabIs
  rw [hvar, ← Lib.cells_of_tab Tryd.underlying121 Tryd.underlying22 cellsE cellsT hd]
theorem gTab2 : Tryd.prog.globalNamed "tumbrel/record.numbers" = some 0 := by kernel_rfl
theorem gTabType2 : (Tryd.prog.globals[0]?).map (·.type) = some 54 := by kernel_rfl
theorem cellsT2 : Tryd.prog.cellsOf 54 = 18 := by kernel_rfl
theorem cellsE2 : Tryd.prog.cellsOf 3 = 1 := by kernel_rfl
theorem numIs : (Rows.laid_tumbrel_record_numbers : DataW Unit) = Lib.tabData .i64 tabZ := by kernel_rfl
theorem table2 {W : World} (h : laidMetH Tryd.prog Rows.seglogCutRow.laid W) : Tab W := by
  have h' : laidMet Tryd.prog Rows.seglogCutRow.laid W := h
  have hr := Lib.laidMet.reads h' (n := "tumbrel/record.numbers") (d := Rows.laid_tumbrel_record_numbers) (.tail _ (.tail _ (.tail _ (.head _))))
  rw [numIs] at hr
  obtain ⟨g', t', cs, fuel, p, hg', ht', hvar, hd⟩ := hr
  obtain rfl := Option.some.inj (gTab2.symm.trans hg')
  obtain rfl := Option.some.inj (gTabType2.symm.trans ht')
  have ht : Lib.TabIs Tryd.prog W "tumbrel/record.numbers" .i64 tabZ := by
    unfold Lib.TabIs
    rw [hvar, ← Lib.cells_of_tab Tryd.underlying54 Tryd.underlying3 cellsE2 cellsT2 hd]
  intro i hi
  rw [← tabZ_at ⟨i, hi⟩]
  exact ht.cell gTab2 i hi

set_option maxRecDepth 100000 in
theorem contract (H : Type) (enc : TypeId × Value → H) (W : World) (base : Nat) (args : Array Value) (ds gs : List (DataW H)) (before : List MemPlace)
    (hval : ∀ (j : Nat) t v, Tryd.f3.params[j]? = some t → args[j]? = some v → Value.okWide Tryd.prog W .any base t v)
    (hW : DataW.Whole enc Tryd.prog Tryd.f3.params.toList Rows.seglogCutSpec.vars false W args.toList ds gs before) (hL : laidMetH Tryd.prog Rows.seglogCutRow.laid W) :
    Calls Tryd.prog 3 args W fun e W' => ∃ v, e = .returned v ∧ Rows.seglogCutSpec.post enc Tryd.prog Tryd.f3 false true false false W args v W' := by
  have hW' := hW
  obtain ⟨p, q, hA0, hV, rfl, hfz, hnd⟩ := hW
  have hA : DataW.TrodAll enc Tryd.prog W 0 (fun _ => true) true Tryd.f3.params.toList args.toList ds p := hA0
  rw [Tryd.params3] at hA hval
  obtain ⟨v0, vs0, d0, ds0, p0, q0, hargs, rfl, rfl, h0, r0⟩ := trodAll_cons hA
  obtain ⟨v1, vs1, d1, ds1, p1, q1, rfl, rfl, rfl, h1, r1⟩ := trodAll_cons r0
  obtain ⟨v2, vs2, d2, ds2, p2, q2, rfl, rfl, rfl, h2, r2⟩ := trodAll_cons r1
  obtain ⟨v3, vs3, d3, ds3, p3, q3, rfl, rfl, rfl, h3, r3⟩ := trodAll_cons r2
  obtain ⟨v4, vs4, d4, ds4, p4, q4, rfl, rfl, rfl, h4, r4⟩ := trodAll_cons r3
  obtain ⟨rfl, rfl, rfl⟩ := trodAll_nil r4
  obtain rfl : args = #[v0, v1, v2, v3, v4] := by cases args; simp_all
  obtain ⟨rfl, rfl⟩ := trodVars_none hV
  obtain ⟨a0, rfl, rfl, rfl, w0⟩ := open_int Tryd.underlying22 (hval 0 22 v0 rfl rfl) h0; obtain ⟨x0, rfl⟩ := u64_of15 w0
  obtain ⟨a1, rfl, rfl, rfl, w1⟩ := open_int Tryd.underlying3 (hval 1 3 v1 rfl rfl) h1
  obtain ⟨l2, m2, hm2, hr2, hi2⟩ := open_recs (hval 2 23 v2 rfl rfl) h2
  obtain ⟨a3, rfl, rfl, rfl, w3⟩ := open_int Tryd.underlying3 (hval 3 3 v3 rfl rfl) h3
  obtain ⟨x4, u4, rfl, hx4⟩ := open_rec (hval 4 26 v4 rfl rfl) h4
  refine (seglogCut_law x0 a1 v2 m2 a3 x4 u4 W hr2 hi2 hx4 (table hL) (table2 hL)).mono fun e W' ⟨he, hg⟩ => ?_
  subst he
  exact ⟨_, rfl, Go.Tum.law_post kid1 kid2 kid3 kid4 rfl Tryd.underlying4 hW' rfl rfl hg⟩

def litC (d : DataW Unit) : Array Value := match d with
  | .agg ds => (ds.map fun x => match x with
    | .lit (.int k n) => Value.int k n
    | _ => .tuple #[]).toArray
  | _ => #[]
/-- A world for the witness: the settled one, the tables laid. -/
noncomputable def laidWorld (os : Os) : World :=
  let w0 := World.holding Tryd.prog os ⟨#[], #[], []⟩
  let put (h : Array Obj) (g : Nat) (cs : Array Value) : Array Obj := h.modify g fun
    | .cells _ t frozen => .cells cs t frozen
    | o => o
  { w0 with heap := put (put (put (put w0.heap 0 (litC Rows.laid_tumbrel_record_numbers)) 1 (litC Rows.laid_internal_strconv_uint64pow10)) 2 (litC Rows.laid_math_bits_deBruijn32tab)) 3 (litC Rows.laid_math_bits_deBruijn64tab) }
theorem laid_met (os : Os) : laidMet Tryd.prog Rows.seglogCutRow.laid ((laidWorld os).forCall (fun _ _ => 0) ⟨#[], #[.int .u64 0, .int .i64 0, .slice none 0 0, .int .i64 0, .agg #[.int .i64 0, .slice none 0 0, .string ⟨#[]⟩]], []⟩).memory :=
  laidMet_of_run3 10 (by kernel_rfl) (by kernel_rfl) (by kernel_rfl)
theorem reads (os : Os) {H : Type} (enc : TypeId × Value → H) : ∃ places, DataW.whole enc Tryd.prog ((laidWorld os).forCall (fun _ _ => 0) ⟨#[], #[.int .u64 0, .int .i64 0, .slice none 0 0, .int .i64 0, .agg #[.int .i64 0, .slice none 0 0, .string ⟨#[]⟩]], []⟩).memory Tryd.f3.params.toList Rows.seglogCutSpec.vars false #[.int .u64 0, .int .i64 0, .slice none 0 0, .int .i64 0, Value.agg #[.int .i64 0, .slice none 0 0, .string ⟨#[]⟩]].toList 8 = some ([.lit (.int .u64 0), .lit (.int .i64 0), .nil, .lit (.int .i64 0), .agg [.lit (.int .i64 0), .nil, .lit (.string [])]], [], places) :=
  ⟨[], by kernel_rfl⟩

set_option maxRecDepth 100000 in
theorem lifted (os : Os) (started : os.Started) (H : Type) (enc : TypeId × Value → H) (F : Stop.Interp) :
    ReturnsInHanded {} Tryd.checked os 3 .any ((OpenSpec.ofChange Rows.seglogCutSpec).preRow enc Tryd.prog Tryd.f3 Rows.seglogCutRow.domain false Rows.seglogCutRow.laid) (((OpenSpec.ofChange Rows.seglogCutSpec).at F).post enc Tryd.prog Tryd.f3 false true false false) := by
  obtain ⟨places, hx⟩ := reads os enc
  refine returnsInHanded_of_row (C := Tryd.checked) (s := OpenSpec.ofChange Rows.seglogCutSpec) own started (by kernel_rfl) Tryd.func3
    (witness_row_at (enc := enc) (C := Tryd.checked) false (laidWorld os) #[.int .u64 0, .int .i64 0, .slice none 0 0, .int .i64 0, .agg #[.int .i64 0, .slice none 0 0, .string ⟨#[]⟩]] rfl (by kernel_rfl) (by kernel_rfl) (by kernel_rfl)
      (OpenSpec.preRow_of_cond 8 hx (by kernel_rfl) (fun k hk => by cases hk) (by kernel_rfl) (laid_met os))) ?_
  intro W base args ds gs before hval hW _ _ _ hL _ _
  exact contract H enc W base args ds gs before hval hW hL

theorem said : Rows.SeglogCutSaid :=
  OpenClaim.holds_of_cond 3 Tryd.f3 rfl rfl rfl rfl rfl rfl rfl ⟨rfl, rfl, rfl, rfl, rfl⟩ rfl rfl rfl rfl rfl (by kernel_rfl) Tryd.func3 (by kernel_rfl)
    (of_decide_eq_true (by kernel_rfl)) (by unfold Func.isWrapper; first | (rw [if_pos (by decide +kernel)]; kernel_rfl) | (rw [if_neg (by decide +kernel)]; exact ⟨rfl, rfl⟩))
    (fun os started H enc _ F => by rw [OpenClaim.pre_eq_preRow]; exact lifted os started H enc F)

theorem plain (f : FuncId) (fn : Func) (hf : Tryd.pinned.checked.prog.funcNamed "tumbrel/tumbrellaw15.SeglogCut" = some f) (hfn : Tryd.pinned.checked.prog.funcs[f]? = some fn) :
    true = Tryd.pinned.checked.prog.looks [] ∧ ∀ (j : Nat) t, fn.params[j]? = some t → Tryd.pinned.checked.prog.wantsStandIn t = false := by
  obtain rfl : f = 3 := Option.some.inj ((show Tryd.prog.funcNamed "tumbrel/tumbrellaw15.SeglogCut" = some 3 by kernel_rfl).symm.trans hf) |>.symm
  obtain rfl : fn = Tryd.f3 := (Option.some.inj (Tryd.func3.symm.trans hfn)).symm
  refine ⟨by kernel_rfl, fun j t ht => ?_⟩
  rw [Tryd.params3] at ht
  have hm := Array.mem_of_getElem? ht
  have hall : ∀ t ∈ Tryd.f3.params.toList, Tryd.prog.wantsStandIn t = false := by decide +kernel
  rw [Tryd.params3] at hall
  exact hall t (by simpa using hm)

theorem proved : Rows.SeglogCutCardSaid :=
  Claim7.holds_tied_plain_at .later [] _ _ _ _ said (fun _ h => by cases h) (by kernel_rfl) (fun _ h => by cases h) seglogCut_row_tie rfl ⟨rfl, rfl⟩ (by kernel_rfl) rfl plain (by kernel_rfl)
end Go.Proofs.YtmbigiihcplcjaaDoor.seglogCut

