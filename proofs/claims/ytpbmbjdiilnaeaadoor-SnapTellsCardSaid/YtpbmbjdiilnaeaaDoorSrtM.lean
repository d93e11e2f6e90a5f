/- The choice of a pivot: any place of the part. -/
import Derived.Test.YtpbmbjdiilnaeaaDoorSrtV
import Derived.OneCell
import Derived.Deep.CutBlock
set_option linter.unusedSimpArgs false
set_option linter.unusedVariables false
namespace Go.Proofs.YtpbmbjdiilnaeaaDoor
open Go Go.RowKit Go.Tum Go.ChangeMaps Go.Sort
open Go.ParB (upd Lof)
open Go.ParE (putS slotsR slots Closed)

theorem RA.fr {w w' : World} {B g n cap : Nat} {d : Array UInt64} {p : Nat} (f : Fr [p] w w') (hp : p ≠ g) (h : RA w B g n cap d) : RA w' B g n cap d := by
  refine ⟨⟨h.row.1, ?_⟩, h.size⟩
  rcases h.row.2 with hn | ⟨g', cap', cur, hv, hb, hgg, rest⟩
  · exact .inl hn
  · refine .inr ⟨g', cap', cur, hv, hb, ?_, rest⟩
    have e : g' = g := by cases hv; rfl
    rw [f.block g' (Array.getElem?_eq_some_iff.1 hgg).1 (by rw [e]; simpa using Ne.symm hp)]; exact hgg
theorem RA.lt {w : World} {B g n cap : Nat} {d : Array UInt64} (h : RA w B g n cap d) : g < w.heap.size := by
  rcases h.row.2 with ⟨hv, -⟩ | ⟨g', cap', cur, hv, hb, hgg, rest⟩
  · cases hv
  · have e : g' = g := by cases hv; rfl
    rw [← e]; exact (Array.getElem?_eq_some_iff.1 hgg).1
/-- A block with a count. -/
def Cnt (w : World) (p : Nat) : Prop := ∃ x : Int, w.heap[p]? = some (.cells #[.int .i64 x] 3 (0, 0))
theorem lk1v {w : World} {b : Nat} {v0 : Value} {ty : TypeId} (h : w.heap[b]? = some (.cells #[v0] ty (0, 0))) : w.cell? ⟨b, 0, none⟩ = some v0 ∧ w.frozen? ⟨b, 0, none⟩ = false := by
  constructor <;> simp [World.cell?, World.frozen?, h]
theorem Cnt.ext {w w' : World} {p : Nat} (hx : Ext w w') (h : Cnt w p) : Cnt w' p := by
  obtain ⟨x, h⟩ := h
  exact ⟨x, by rw [hx.block p (Array.getElem?_eq_some_iff.1 h).1]; exact h⟩
theorem Cnt.lt {w : World} {p : Nat} (h : Cnt w p) : p < w.heap.size := by
  obtain ⟨x, h⟩ := h
  exact (Array.getElem?_eq_some_iff.1 h).1
theorem Cnt.set {w : World} {p : Nat} (h : Cnt w p) (y : Int) : Cnt (w.setCell ⟨p, 0, none⟩ (.int .i64 y)) p := by
  obtain ⟨x, h⟩ := h
  exact ⟨y, one_setCell h⟩
/-- Two indices, as a result. -/
def ii (x y : Nat) : Value := .tuple #[.int .i64 (x : Int), .int .i64 (y : Int)]
set_option maxRecDepth 100000 in
set_option maxHeartbeats 2000000 in
theorem ord2V_any {B : Nat} {w : World} (g n cap a b p : Nat) (d : Array UInt64) (h : RA w B g n cap d) (hc : Cnt w p) (hpg : p ≠ g) (han : a < n) (hbn : b < n) :
    Calls Tryd.prog 57 #[.slice (some ⟨g, 0, none⟩) n cap, .int .i64 (a : Int), .int .i64 (b : Int), .pointer (some ⟨p, 0, none⟩)] w fun e w' =>
      (∃ x y, e = .returned (ii x y) ∧ ((x = a ∧ y = b) ∨ (x = b ∧ y = a))) ∧ RA w' B g n cap d ∧ Cnt w' p ∧ Fr [p] w w' := by
  have HR := hid h
  have HC := hid hc
  have HP := hid hpg
  have HF : Hid (Fr [p] w w) := hid (Fr.refl _ _)
  obtain ⟨hcap1, hcap2⟩ := h.bound
  have han2 : (a : Int) < n := by omega
  have hbn2 : (b : Int) < n := by omega
  clear h hc hpg
  obtain ⟨za, Hza, HCza⟩ := cellV (B := B) (g := g) (n := n) (cap := cap) d a (by omega)
  obtain ⟨zb, Hzb, HCzb⟩ := cellV (B := B) (g := g) (n := n) (cap := cap) d b (by omega)
  obtain ⟨b0, Hb0⟩ : ∃ b, Hid (ltU zb za = b) := ⟨_, hid rfl⟩
  go_enter Tryd.func57, Tryd.ntmps57
  go_wp2_with fail
  refine Par.wp_region_par (l := [_, _, _, _, _, _, _, _, _]) rfl Ext (Par.VL [Par.EQ (Value.slice (some ⟨g, 0, none⟩) n cap), Par.EQ (Value.int IntKind.i64 (b : Int)), Par.EQ (Value.pointer (some ⟨g, b, none⟩)), Par.EQ (uv zb), Par.EQ (Value.slice (some ⟨g, 0, none⟩) n cap), Par.EQ (Value.int IntKind.i64 (a : Int)), Par.EQ (Value.pointer (some ⟨g, a, none⟩)), Par.EQ (uv za), Par.EQ (Value.bool b0)]) (by kernel_rfl) Ext.refl (fun _ _ _ h1 h2 => Ext.trans h1 h2) (Ext.draw _) (Par.VL_stab ?_) ?_ ?_
  · simp only [List.forall_mem_cons, List.not_mem_nil, false_implies, implies_true, and_true]
    refine ⟨fun _ _ _ _ h => h, fun _ _ _ _ h => h, fun _ _ _ _ h => h, fun _ _ _ _ h => h, fun _ _ _ _ h => h, fun _ _ _ _ h => h, fun _ _ _ _ h => h, fun _ _ _ _ h => h, fun _ _ _ _ h => h⟩
  · refine ⟨⟨fun _ _ => trivial, fun ρ w' hX hG hk => ?_⟩, ?_⟩
    · exact Par.val_of_run rfl ⟨Ext.refl _, hk.1⟩
    refine ⟨⟨fun _ _ => trivial, fun ρ w' hX hG hk => ?_⟩, ?_⟩
    · exact Par.val_of_run rfl ⟨Ext.refl _, hk.1⟩
    refine ⟨⟨fun _ _ => trivial, fun ρ w' hX hG hk => ?_⟩, ?_⟩
    · obtain ⟨k0, k1, -⟩ := hk
      have e0 : ρ (.tmp 10) = Value.slice (some ⟨g, 0, none⟩) n cap := k0
      have e1 : ρ (.tmp 11) = Value.int IntKind.i64 (b : Int) := k1
      clear k0 k1
      refine Par.val_k fun K hK => ?_
      unfold Par.val
      (go_simp; exact hK _ _ ⟨Ext.refl _, rfl⟩)
    refine ⟨⟨fun _ _ => trivial, fun ρ w' hX hG hk => ?_⟩, ?_⟩
    · obtain ⟨k0, -⟩ := hk
      have e0 : ρ (.tmp 12) = Value.pointer (some ⟨g, b, none⟩) := k0
      clear k0
      refine Par.val_k fun K hK => ?_
      unfold Par.val
      (have cc := HCzb.out _ (RA.ext hX HR.out); go_simp; exact hK _ _ ⟨Ext.refl _, rfl⟩)
    refine ⟨⟨fun _ _ => trivial, fun ρ w' hX hG hk => ?_⟩, ?_⟩
    · exact Par.val_of_run rfl ⟨Ext.refl _, hk.1⟩
    refine ⟨⟨fun _ _ => trivial, fun ρ w' hX hG hk => ?_⟩, ?_⟩
    · exact Par.val_of_run rfl ⟨Ext.refl _, hk.1⟩
    refine ⟨⟨fun _ _ => trivial, fun ρ w' hX hG hk => ?_⟩, ?_⟩
    · obtain ⟨k0, k1, -⟩ := hk
      have e0 : ρ (.tmp 14) = Value.slice (some ⟨g, 0, none⟩) n cap := k0
      have e1 : ρ (.tmp 15) = Value.int IntKind.i64 (a : Int) := k1
      clear k0 k1
      refine Par.val_k fun K hK => ?_
      unfold Par.val
      (go_simp; exact hK _ _ ⟨Ext.refl _, rfl⟩)
    refine ⟨⟨fun _ _ => trivial, fun ρ w' hX hG hk => ?_⟩, ?_⟩
    · obtain ⟨k0, -⟩ := hk
      have e0 : ρ (.tmp 16) = Value.pointer (some ⟨g, a, none⟩) := k0
      clear k0
      refine Par.val_k fun K hK => ?_
      unfold Par.val
      (have cc := HCza.out _ (RA.ext hX HR.out); go_simp; exact hK _ _ ⟨Ext.refl _, rfl⟩)
    refine ⟨⟨fun _ _ => trivial, fun ρ w' hX hG hk => ?_⟩, ?_⟩
    · obtain ⟨k0, k1, k2, -⟩ := hk
      have e0 := k0
      have e1 : ρ (.tmp 13) = uv zb := k1
      have e2 : ρ (.tmp 17) = uv za := k2
      clear k0 k1 k2
      refine Par.val_k fun K hK => ?_
      unfold Par.val
      refine Par.val_call Tryd.func46 (by kernel_rfl) rfl e0 ?_
      simp only [List.map_toArray, List.map_cons, List.map_nil, e1, e2]
      refine (lessU_any zb za _).mono ?_
      rintro e w2 ⟨rfl, rfl⟩
      exact ⟨_, rfl, hK _ _ ⟨Ext.refl _, (congrArg Value.bool Hb0.out)⟩⟩
    trivial
  intro a' w' inv
  have hX := inv.ext
  have q10 : a'.tmps.getD 10 undef = Value.slice (some ⟨g, 0, none⟩) n cap := inv.done 0 _ 10 rfl rfl rfl
  have q11 : a'.tmps.getD 11 undef = Value.int IntKind.i64 (b : Int) := inv.done 1 _ 11 rfl rfl rfl
  have q12 : a'.tmps.getD 12 undef = Value.pointer (some ⟨g, b, none⟩) := inv.done 2 _ 12 rfl rfl rfl
  have q13 : a'.tmps.getD 13 undef = uv zb := inv.done 3 _ 13 rfl rfl rfl
  have q14 : a'.tmps.getD 14 undef = Value.slice (some ⟨g, 0, none⟩) n cap := inv.done 4 _ 14 rfl rfl rfl
  have q15 : a'.tmps.getD 15 undef = Value.int IntKind.i64 (a : Int) := inv.done 5 _ 15 rfl rfl rfl
  have q16 : a'.tmps.getD 16 undef = Value.pointer (some ⟨g, a, none⟩) := inv.done 6 _ 16 rfl rfl rfl
  have q17 : a'.tmps.getD 17 undef = uv za := inv.done 7 _ 17 rfl rfl rfl
  have q18 : a'.tmps.getD 18 undef = Value.bool b0 := inv.done 8 _ 18 rfl rfl rfl
  clear inv
  simp only [List.filterMap_cons, List.filterMap_nil, Par.putAll, Act.put, List.setIfInBounds_toArray, List.set_cons_succ, List.set_cons_zero, q10, q11, q12, q13, q14, q15, q16, q17, q18]
  clear q10 q11 q12 q13 q14 q15 q16 q17 q18
  clear a'
  have HC2 := hid (Cnt.ext hX HC.out)
  have HF2 := hid (HF.out.trans (Ext.fr hX))
  have HR2 := hid (RA.ext hX HR.out)
  clear hX HF HR HC
  have HF := HF2
  have HR := HR2
  have HC := HC2
  clear HF2 HR2 HC2
  cases b0
  case false =>
    go_wp2
    go_returns
    exact ⟨⟨a, b, rfl, .inl ⟨rfl, rfl⟩⟩, HR.out, HC.out, HF.out⟩
  case true =>
    obtain ⟨x, hx⟩ := HC.out
    have HX := hid hx
    obtain ⟨c0, f0⟩ := lk1v hx
    clear hx
    go_wp2
    go_returns
    exact ⟨⟨b, a, rfl, .inr ⟨rfl, rfl⟩⟩, RA.fr (fr_setCell _ _ _ (by simp)) HP.out HR.out, Cnt.set ⟨x, HX.out⟩ _, HF.out.trans (fr_setCell _ _ _ (by simp))⟩
set_option maxRecDepth 100000 in
set_option maxHeartbeats 2000000 in
theorem medV_any {B : Nat} {w : World} (g n cap a b c p : Nat) (d : Array UInt64) (h : RA w B g n cap d) (hc : Cnt w p) (hpg : p ≠ g) (han : a < n) (hbn : b < n) (hcn : c < n) :
    Calls Tryd.prog 55 #[.slice (some ⟨g, 0, none⟩) n cap, .int .i64 (a : Int), .int .i64 (b : Int), .int .i64 (c : Int), .pointer (some ⟨p, 0, none⟩)] w fun e w' =>
      (∃ x : Nat, e = .returned (.int .i64 (x : Int)) ∧ (x = a ∨ x = b ∨ x = c)) ∧ RA w' B g n cap d ∧ Cnt w' p ∧ Fr [p] w w' := by
  have HR := hid h
  have HC := hid hc
  have HP := hid hpg
  clear h hc hpg
  go_enter Tryd.func55, Tryd.ntmps55
  go_wp2_with fail
  refine (ord2V_any g n cap a b p d HR.out HC.out HP.out han hbn).mono ?_
  rintro e w1 ⟨⟨x1, y1, rfl, h1⟩, hr1, hc1, hf1⟩
  have hx1 : x1 < n := by rcases h1 with ⟨rfl, rfl⟩ | ⟨rfl, rfl⟩ <;> assumption
  have hy1 : y1 < n := by rcases h1 with ⟨rfl, rfl⟩ | ⟨rfl, rfl⟩ <;> assumption
  have HR1 := hid hr1
  have HC1 := hid hc1
  have HF1 := hid hf1
  have H1 := hid h1
  clear h1 hr1 hc1 hf1
  unfold ii
  go_wp2_with fail
  refine (ord2V_any g n cap y1 c p d HR1.out HC1.out HP.out hy1 hcn).mono ?_
  rintro e w2 ⟨⟨x2, y2, rfl, h2⟩, hr2, hc2, hf2⟩
  have hx2 : x2 < n := by rcases h2 with ⟨rfl, rfl⟩ | ⟨rfl, rfl⟩ <;> assumption
  have HR2 := hid hr2
  have HC2 := hid hc2
  have HF2 := hid (HF1.out.trans hf2)
  have H2 := hid h2
  clear h2 hr2 hc2 hf2 HR1 HC1 HF1
  unfold ii
  go_wp2_with fail
  refine (ord2V_any g n cap x1 x2 p d HR2.out HC2.out HP.out hx1 hx2).mono ?_
  rintro e w3 ⟨⟨x3, y3, rfl, h3⟩, hr3, hc3, hf3⟩
  have HR3 := hid hr3
  have HC3 := hid hc3
  have HF3 := hid (HF2.out.trans hf3)
  have H3 := hid h3
  clear h3 hr3 hc3 hf3 HR2 HC2 HF2
  unfold ii
  go_wp2
  go_returns
  exact ⟨⟨y3, rfl, by have := H1.out; have := H2.out; have := H3.out; omega⟩, HR3.out, HC3.out, HF3.out⟩
set_option maxRecDepth 100000 in
set_option maxHeartbeats 2000000 in
theorem madjV_any {B : Nat} {w : World} (g n cap a p : Nat) (d : Array UInt64) (h : RA w B g n cap d) (hc : Cnt w p) (hpg : p ≠ g) (ha1 : 1 ≤ a) (han : a + 1 < n) (hbig : n ≤ 4611686018427387903) :
    Calls Tryd.prog 54 #[.slice (some ⟨g, 0, none⟩) n cap, .int .i64 (a : Int), .pointer (some ⟨p, 0, none⟩)] w fun e w' =>
      (∃ x : Nat, e = .returned (.int .i64 (x : Int)) ∧ a - 1 ≤ x ∧ x ≤ a + 1) ∧ RA w' B g n cap d ∧ Cnt w' p ∧ Fr [p] w w' := by
  have HR := hid h
  have HC := hid hc
  have HP := hid hpg
  clear h hc hpg
  obtain ⟨q, hq⟩ : ∃ q, q + 1 = a := ⟨a - 1, by omega⟩
  obtain ⟨r, hr⟩ : ∃ r, r = a + 1 := ⟨_, rfl⟩
  have hwq : IntKind.i64.wrap ((a : Int) - 1) = (q : Int) := i64v _ (by omega) (by omega)
  have hwr : IntKind.i64.wrap ((a : Int) + 1) = (r : Int) := i64v _ (by omega) (by omega)
  have hqn : q < n := by omega
  have hrn : r < n := by omega
  have han1 : a < n := by omega
  have HQ := hid (And.intro hq hr)
  clear hq hr
  go_enter Tryd.func54, Tryd.ntmps54
  go_wp2_with fail
  refine (medV_any g n cap q a r p d HR.out HC.out HP.out hqn han1 hrn).mono ?_
  rintro e w1 ⟨⟨x1, rfl, h1⟩, hr1, hc1, hf1⟩
  have HR1 := hid hr1
  have HC1 := hid hc1
  have HF1 := hid hf1
  have H1 := hid h1
  clear h1 hr1 hc1 hf1
  go_wp2
  go_returns
  exact ⟨⟨x1, rfl, by have := H1.out; have := HQ.out; omega, by have := H1.out; have := HQ.out; omega⟩, HR1.out, HC1.out, HF1.out⟩
/-- A pivot's place and a hint. -/
def ph (x : Nat) (y : Int) : Value := .tuple #[.int .i64 (x : Int), .int .i64 y]
set_option maxRecDepth 100000 in
set_option maxHeartbeats 4000000 in
theorem pivV_any {B : Nat} {w : World} (g n cap a b : Nat) (d : Array UInt64) (h : RA w B g n cap d) (hab : a + 12 < b) (hbn : b ≤ n) (hbig : n ≤ 4611686018427387903) :
    Calls Tryd.prog 43 #[.slice (some ⟨g, 0, none⟩) n cap, .int .i64 (a : Int), .int .i64 (b : Int)] w fun e w' =>
      (∃ (x : Nat) (y : Int), e = .returned (ph x y) ∧ a ≤ x ∧ x < b ∧ (y = 0 ∨ y = 1 ∨ y = 2)) ∧ RA w' B g n cap d ∧ Ext w w' := by
  have HR := hid h
  obtain ⟨l, hl⟩ : ∃ l, l = b - a := ⟨_, rfl⟩
  obtain ⟨q, hq⟩ : ∃ q, q = l / 4 := ⟨_, rfl⟩
  obtain ⟨q2, hq2⟩ : ∃ q2, q2 = q * 2 := ⟨_, rfl⟩
  obtain ⟨q3, hq3⟩ : ∃ q3, q3 = q * 3 := ⟨_, rfl⟩
  obtain ⟨i, hi⟩ : ∃ i, i = a + q := ⟨_, rfl⟩
  obtain ⟨j, hj⟩ : ∃ j, j = a + q2 := ⟨_, rfl⟩
  obtain ⟨k, hk⟩ : ∃ k, k = a + q3 := ⟨_, rfl⟩
  have hwl : IntKind.i64.wrap ((b : Int) - (a : Int)) = (l : Int) := i64v _ (by omega) (by omega)
  have hwq : IntKind.i64.wrap ((l : Int) / 4) = (q : Int) := i64v _ (by omega) (by omega)
  have hwq1 : IntKind.i64.wrap (q : Int) = (q : Int) := i64v _ (by omega) (by omega)
  have hwq2 : IntKind.i64.wrap ((q : Int) * 2) = (q2 : Int) := i64v _ (by omega) (by omega)
  have hwq3 : IntKind.i64.wrap ((q : Int) * 3) = (q3 : Int) := i64v _ (by omega) (by omega)
  have hwi : IntKind.i64.wrap ((a : Int) + (q : Int)) = (i : Int) := i64v _ (by omega) (by omega)
  have hwj : IntKind.i64.wrap ((a : Int) + (q2 : Int)) = (j : Int) := i64v _ (by omega) (by omega)
  have hwk : IntKind.i64.wrap ((a : Int) + (q3 : Int)) = (k : Int) := i64v _ (by omega) (by omega)
  have hl8 : 8 ≤ l := by omega
  have hia : a ≤ i ∧ i < b := by omega
  have hja : a ≤ j ∧ j < b := by omega
  have hka : a ≤ k ∧ k < b := by omega
  have h50 : 50 ≤ l → a + 1 ≤ i ∧ i + 1 < b ∧ a + 1 ≤ j ∧ j + 1 < b ∧ a + 1 ≤ k ∧ k + 1 < b := by omega
  have HIA := hid hia
  have HJA := hid hja
  have HKA := hid hka
  have H50 := hid h50
  have hg : g ≠ w.heap.size := by have := h.lt; omega
  have HG := hid hg
  have HE0 : Hid (Ext w (w.alloc (.cells #[.int .i64 0] 3))) := hid (Ext.alloc _ _)
  have HC0 : Hid (Cnt (w.alloc (.cells #[.int .i64 0] 3)) w.heap.size) := hid ⟨0, heap_alloc_new _ _⟩
  have HR0 : Hid (RA (w.alloc (.cells #[.int .i64 0] 3)) B g n cap d) := hid (RA.ext HE0.out HR.out)
  obtain ⟨p, hp⟩ : ∃ p, p = w.heap.size := ⟨_, rfl⟩
  have HP := hid hp
  clear h hl hq hq2 hq3 hi hj hk hia hja hka h50 hg hp
  go_enter Tryd.func43, Tryd.ntmps43
  go_upto_if 32 with fail
  try simp only [← HP.out]
  rw [← HP.out] at HC0 HG
  generalize w.alloc (.cells #[.int .i64 0] 3) = w0 at *
  have HPG : Hid (p ≠ g) := hid (fun e => HG.out e.symm)
  go_cut [10, 11, 12] from 13 (fun i' j' k' wx => ∃ x y z : Nat, j' = .int .i64 (y : Int) ∧ a ≤ y ∧ y < b ∧ Hid (RA wx B g n cap d) ∧ Hid (Cnt wx p) ∧ Hid (Fr [p] w0 wx))
  case first =>
    rcases Nat.lt_or_ge l 50 with hl50 | hl50
    · have hc50 : (50 ≤ l) = False := by simp; omega
      have hin : i < n := by have := HIA.out; omega
      have hjn : j < n := by have := HJA.out; omega
      have hkn : k < n := by have := HKA.out; omega
      go_wp2_with fail
      refine (medV_any g n cap i j k p d HR0.out HC0.out HPG.out hin hjn hkn).mono ?_
      rintro e w1 ⟨⟨x1, rfl, h1⟩, hr1, hc1, hf1⟩
      have HR1 := hid hr1
      have HC1 := hid hc1
      have HF1 := hid hf1
      have H1 := hid h1
      clear h1 hr1 hc1 hf1
      go_wp2
      go_meet
      case rel => exact ⟨0, x1, 0, rfl, by have := H1.out; have := HIA.out; have := HJA.out; have := HKA.out; omega, by have := H1.out; have := HIA.out; have := HJA.out; have := HKA.out; omega, HR1, HC1, HF1⟩
    · have H5 := hid (H50.out hl50)
      go_wp2_with fail
      refine (madjV_any g n cap i p d HR0.out HC0.out HPG.out (by have := H5.out; omega) (by have := H5.out; omega) hbig).mono ?_
      rintro e w1 ⟨⟨x1, rfl, h11, h12⟩, hr1, hc1, hf1⟩
      have HR1 := hid hr1
      have HC1 := hid hc1
      have HF1 := hid hf1
      have H1 := hid (And.intro h11 h12)
      clear h11 h12 hr1 hc1 hf1
      go_wp2_with fail
      refine (madjV_any g n cap j p d HR1.out HC1.out HPG.out (by have := H5.out; omega) (by have := H5.out; omega) hbig).mono ?_
      rintro e w2 ⟨⟨x2, rfl, h21, h22⟩, hr2, hc2, hf2⟩
      have HR2 := hid hr2
      have HC2 := hid hc2
      have HF2 := hid (HF1.out.trans hf2)
      have H2 := hid (And.intro h21 h22)
      clear h21 h22 hr2 hc2 hf2 HR1 HC1 HF1
      go_wp2_with fail
      refine (madjV_any g n cap k p d HR2.out HC2.out HPG.out (by have := H5.out; omega) (by have := H5.out; omega) hbig).mono ?_
      rintro e w3 ⟨⟨x3, rfl, h31, h32⟩, hr3, hc3, hf3⟩
      have HR3 := hid hr3
      have HC3 := hid hc3
      have HF3 := hid (HF2.out.trans hf3)
      have H3 := hid (And.intro h31 h32)
      clear h31 h32 hr3 hc3 hf3 HR2 HC2 HF2
      have hb1 : a ≤ x1 ∧ x1 < b := by have := H5.out; have := H1.out; omega
      have hb2 : a ≤ x2 ∧ x2 < b := by have := H5.out; have := H2.out; omega
      have hb3 : a ≤ x3 ∧ x3 < b := by have := H5.out; have := H3.out; omega
      have HB1 := hid hb1
      have HB2 := hid hb2
      have HB3 := hid hb3
      clear hb1 hb2 hb3
      go_wp2_with fail
      refine (medV_any g n cap x1 x2 x3 p d HR3.out HC3.out HPG.out (by have := HB1.out; omega) (by have := HB2.out; omega) (by have := HB3.out; omega)).mono ?_
      rintro e w4 ⟨⟨x4, rfl, h4⟩, hr4, hc4, hf4⟩
      have HR4 := hid hr4
      have HC4 := hid hc4
      have HF4 := hid (HF3.out.trans hf4)
      have H4 := hid h4
      clear h4 hr4 hc4 hf4 HR3 HC3 HF3
      go_wp2
      go_meet
      case rel => exact ⟨0, x4, 0, rfl, by have := H4.out; have := HB1.out; have := HB2.out; have := HB3.out; omega, by have := H4.out; have := HB1.out; have := HB2.out; have := HB3.out; omega, HR4, HC4, HF4⟩
  case rest =>
    obtain ⟨-, y, -, rfl, hya, hyb, HR1, HC1, HF1⟩ := hcut
    have HX : Hid (Ext w wc) := hid (Fr.ext ((Ext.fr HE0.out).trans HF1.out |>.wider (fun x hx => .inr (by simp at hx; rw [hx, HP.out]; exact Nat.le_refl _))))
    obtain ⟨x, hx⟩ := HC1.out
    obtain ⟨c0, f0⟩ := lk1v hx
    clear hx HF1
    by_cases h0 : x = 0
    · subst h0
      go_wp2
      go_returns
      exact ⟨⟨y, 1, rfl, hya, hyb, by omega⟩, HR1.out, HX.out⟩
    · have h0b : (x == 0) = false := by simpa using h0
      by_cases h12 : x = 12
      · subst h12
        go_wp2
        go_returns
        exact ⟨⟨y, 2, rfl, hya, hyb, by omega⟩, HR1.out, HX.out⟩
      · have h12b : (x == 12) = false := by simpa using h12
        go_wp2
        go_returns
        exact ⟨⟨y, 0, rfl, hya, hyb, by omega⟩, HR1.out, HX.out⟩
end Go.Proofs.YtpbmbjdiilnaeaaDoor
