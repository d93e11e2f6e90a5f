/- Package record: Read. -/
import Derived.Test.YtiblhopjhpflpaaDoorRecD
import Derived.Test.YtiblhopjhpflpaaDoorFrmB
set_option maxRecDepth 100000
namespace Go.Proofs.YtiblhopjhpflpaaDoor
open Go.RowKit Go.Tum Go.Tum.Crc Go.Tum.Vint

def ReadR5 (T : Nat) (w : World) (x : Fr) (e : Ending) (w' : World) : Prop :=
  ∃ v, e = .returned (.tuple #[rv (recRead x).1 v, .int .i64 (recRead x).2]) ∧ OwV uv w' w.heap.size T v (recRead x).1.n ∧ Ext w w'

theorem read5_results (tmps : Array Value) (w : World) (B : Nat) (p q s : Value) (h2 : tmps.getD 2 undef = .pointer (some ⟨B, 0, none⟩)) (m0 : w.cell? ⟨B, 0, none⟩ = some p) (m1 : w.cell? ⟨B, 1, none⟩ = some q) (m2 : w.cell? ⟨B, 2, none⟩ = some s) :
    (results Tryd.f61 tmps).run Tryd.prog w = .ok (.tuple #[.agg #[p, q, s], tmps.getD 3 undef]) w := by
  have h2' : tmps[2]?.getD undef = .pointer (some ⟨B, 0, none⟩) := by simpa using h2
  simp [results, Tryd.results61, go_sem, h2', m0, m1, m2]

/-- What the loop knows: k of m numbers are read, acc, and left is left. -/
def GR (m k : Nat) (body : List UInt8) (acc : List UInt64) (left : List UInt8) : Prop := (gets m body).2.2 = (gets (m - k) left).2.2 ∧
  ((gets (m - k) left).2.2 = 0 → (gets m body).1 = acc ++ (gets (m - k) left).1 ∧ (gets m body).2.1 = (gets (m - k) left).2.1)
theorem GR.start (m : Nat) (body : List UInt8) : GR m 0 body [] body := ⟨rfl, fun _ => ⟨rfl, rfl⟩⟩
theorem GR.err {m k : Nat} {body left : List UInt8} {acc : List UInt64} (h : GR m k body acc left) (hk : k < m) (he : (vget left).2.2 ≠ 0) : (gets m body).2.2 = (vget left).2.2 := by
  have h1 := h.1
  obtain ⟨j, hj⟩ : ∃ j, m - k = j + 1 := ⟨m - k - 1, by omega⟩
  rw [hj] at h1
  rw [h1]
  simp only [gets]
  rw [if_pos he]
theorem GR.step {m k : Nat} {body left : List UInt8} {acc : List UInt64} (h : GR m k body acc left) (hk : k < m) (he : (vget left).2.2 = 0) :
    GR m (k + 1) body (acc ++ [UInt64.ofNat (vget left).1]) (left.drop (vget left).2.1) := by
  obtain ⟨h1, h2⟩ := h
  obtain ⟨j, hj⟩ : ∃ j, m - k = j + 1 := ⟨m - k - 1, by omega⟩
  have hj2 : m - (k + 1) = j := by omega
  rw [hj] at h1 h2
  unfold GR
  rw [hj2]
  simp only [gets] at h1 h2
  rw [if_neg (by simp [he])] at h1 h2
  by_cases h3 : (gets j (left.drop (vget left).2.1)).2.2 = 0
  · rw [if_neg (by simp [h3])] at h1 h2
    refine ⟨by rw [h1, h3], fun _ => ?_⟩
    obtain ⟨i1, i2⟩ := h2 rfl
    exact ⟨by rw [i1]; simp, i2⟩
  · rw [if_pos h3] at h1
    exact ⟨h1, fun h => absurd h h3⟩
theorem GR.fin {m : Nat} {body left : List UInt8} {acc : List UInt64} (h : GR m m body acc left) : gets m body = (acc, left, 0) := by
  obtain ⟨h1, h2⟩ := h
  rw [Nat.sub_self] at h1 h2
  obtain ⟨i1, i2⟩ := h2 rfl
  apply Prod.ext
  · rw [i1]; simp [gets]
  · exact Prod.ext (by rw [i2]; rfl) h1

theorem blk3f {w : World} {b : Nat} {p q s : Value} {ty : TypeId} (h : w.heap[b]? = some (.cells #[p, q, s] ty (0, 0))) :
    w.cell? ⟨b, 0, none⟩ = some p ∧ w.cell? ⟨b, 1, none⟩ = some q ∧ w.cell? ⟨b, 2, none⟩ = some s ∧ w.frozen? ⟨b, 0, none⟩ = false ∧ w.frozen? ⟨b, 1, none⟩ = false ∧ w.frozen? ⟨b, 2, none⟩ = false := by
  obtain ⟨h1, h2, h3⟩ := blk3 h
  exact ⟨h1, h2, h3, by simp [World.frozen?, h], by simp [World.frozen?, h], by simp [World.frozen?, h]⟩
theorem owv_setLow {α : Type} {f : α → Value} {w : World} {b e : Nat} {v : Value} {l : List α} (h : OwV f w b e v l) (a : Addr) (u : Value) (ha : a.block < b) : OwV f (w.setCell a u) b e v l := by
  refine ⟨h.1, ?_⟩
  rcases h.2 with hn | ⟨g', cap', cur, hv, hb, hgg, rest⟩
  · exact .inl hn
  · exact .inr ⟨g', cap', cur, hv, hb, by rw [heap_setCell_other _ _ _ _ (by omega)]; exact hgg, rest⟩
theorem recRead_none {k : UInt8} {b : List UInt8} (h : knownB k.toNat = false) : recRead ⟨k, b⟩ = (r0, 2) := by unfold recRead; rw [if_pos h]
theorem recRead_some {k : UInt8} {b : List UInt8} (h : knownB k.toNat = true) : recRead ⟨k, b⟩ =
    if (gets (many k.toNat) b).2.2 ≠ 0 then (r0, ((gets (many k.toNat) b).2.2 : Int)) else if textB k.toNat (gets (many k.toNat) b).2.1.length = false then (r0, 2) else (⟨k.toNat, (gets (many k.toNat) b).1, (gets (many k.toNat) b).2.1⟩, 0) := by
  unfold recRead
  rw [if_neg (by simp [h])]

theorem below_obj {B g : Nat} {a b : World} {o : Obj} (h : Below B a b) (hg : g < B) (ho : a.heap[g]? = some o) : b.heap[g]? = some o := by
  exact (h.block g hg).trans ho
set_option maxRecDepth 100000 in
set_option maxHeartbeats 4000000 in
theorem read5_any (x : Fr) (v : Value) (w : World) (hb : Byt w v x.body) (ht : Tab w) :
    Calls Tryd.prog 61 #[fv x v] w (ReadR5 28 w x) := by
  obtain ⟨ao, cap, rfl, -⟩ := hb.open
  obtain ⟨kind, body⟩ := x
  have HT := hid ht
  have HB := hid hb
  clear ht hb
  obtain ⟨KB, hKB⟩ : ∃ KB, knownB (kind.toNat : Int) = KB := ⟨_, rfl⟩
  have HKB := hid hKB
  clear hKB
  have hkl := kind.toNat_lt
  have hwk : wrap64 (kind.toNat : Int) = (kind.toNat : Int) := IntWalk.wrap64_in _ ⟨by omega, by omega⟩
  have hB1 : ((w.alloc (.cells #[.int .u8 (kind.toNat : Int), .slice ao body.length cap] 87)).alloc (.cells #[.int .i64 0, .slice none 0 0, .string ⟨#[]⟩] 61)).heap[w.heap.size + 1]? = some (.cells #[.int .i64 0, .slice none 0 0, .string ⟨#[]⟩] 61 (0, 0)) := by
    have := heap_alloc_new (w.alloc (.cells #[.int .u8 (kind.toNat : Int), .slice ao body.length cap] 87)) (.cells #[.int .i64 0, .slice none 0 0, .string ⟨#[]⟩] 61)
    simpa using this
  go_enter Tryd.func61, Tryd.ntmps61
  go_wp2_with fail
  refine (known_any (kind.toNat : Int) _).mono ?_
  rintro e w1 ⟨rfl, rfl⟩
  rw [HKB.out]
  have hE1 := Ext.alloc w (.cells #[.int .u8 (kind.toNat : Int), .slice ao body.length cap] 87)
  have hB0 := heap_alloc_new w (.cells #[.int .u8 (kind.toNat : Int), .slice ao body.length cap] 87)
  have hS1 : (w.alloc (.cells #[.int .u8 (kind.toNat : Int), .slice ao body.length cap] 87)).heap.size = w.heap.size + 1 := by simp
  generalize w.alloc (.cells #[.int .u8 (kind.toNat : Int), .slice ao body.length cap] 87) = W1 at *
  have hE2 := Ext.alloc W1 (.cells #[.int .i64 0, .slice none 0 0, .string ⟨#[]⟩] 61)
  have hS2 : (W1.alloc (.cells #[.int .i64 0, .slice none 0 0, .string ⟨#[]⟩] 61)).heap.size = w.heap.size + 1 + 1 := by simp [hS1]
  generalize W1.alloc (.cells #[.int .i64 0, .slice none 0 0, .string ⟨#[]⟩] 61) = W2 at *
  have hE3 := Ext.alloc W2 (.cells #[.int .i64 (kind.toNat : Int), .slice none 0 0, .string ⟨#[]⟩] 61)
  have hS3 : (W2.alloc (.cells #[.int .i64 (kind.toNat : Int), .slice none 0 0, .string ⟨#[]⟩] 61)).heap.size = w.heap.size + 3 := by simp [hS2]
  have hB2 := heap_alloc_new W2 (.cells #[.int .i64 (kind.toNat : Int), .slice none 0 0, .string ⟨#[]⟩] 61)
  rw [hS2] at hB2
  generalize W2.alloc (.cells #[.int .i64 (kind.toNat : Int), .slice none 0 0, .string ⟨#[]⟩] 61) = W3 at *
  replace hB0 := hE3.obj (hE2.obj hB0)
  replace hB1 := hE3.obj hB1
  have HE := hid (hE1.trans (hE2.trans hE3))
  clear hE1 hE2 hE3 hS1 hS2
  have HS3 := hid hS3
  have hlt3 : w.heap.size + 1 < W3.heap.size := by omega
  clear hS3
  cases KB with
  | false =>
    have HR := hid (recRead_none (b := body) HKB.out)
    obtain ⟨k0, k1, k2, k3, k4, k5⟩ := blk3f hB1
    have hB1' := Go.Joins.block_setCell (i := 2) (Go.Joins.block_setCell (i := 1) (Go.Joins.block_setCell (i := 0) hB1 (.int .i64 0)) (.slice none 0 0)) (.string ⟨#[]⟩)
    clear hB1 hB0 hB2
    go_wp2
    obtain ⟨m0, m1, m2, -⟩ := blk3f hB1'
    refine bodyPost_ret (read5_results _ _ _ _ _ _ rfl m0 m1 m2) rfl ?_
    unfold ReadR5
    rw [HR.out]
    have hE := HE.out
    exact ⟨.slice none 0 0, rfl, World.ownsRow_nil _ _ _ _, by (repeat' (first | (with_reducible exact Below.refl _ _) | (with_reducible assumption) | (with_reducible refine Below.alloc ?_ ?_ _) | (with_reducible refine Below.drew ?_) | (with_reducible refine Below.setCell ?_ ?_ _) | (refine Go.Tum.Ext.trans ?_ (by with_reducible assumption)) | go_size))⟩
  | true =>
    have HR := hid (recRead_some (b := body) HKB.out)
    have hk18 : kind.toNat < 18 := by
      have := HKB.out
      simp only [knownB, Bool.and_eq_true, decide_eq_true_eq] at this
      omega
    have hk19 : (kind.toNat : Int) < 18 := by omega
    have htab := HE.out.cell (HT.out kind.toNat hk18)
    obtain ⟨m, hm⟩ : ∃ m, manyT.getD kind.toNat 0 = m := ⟨_, rfl⟩
    rw [hm] at htab
    have hmm : many (kind.toNat : Int) = m := by rw [← hm]; simp [many]
    have hm10 : m ≤ 10 := by rw [← hmm]; exact many_le _
    have HMM := hid hmm
    clear hm hmm
    obtain ⟨j0, j1, -⟩ := blk2 hB0
    obtain ⟨k0, k1, k2, k3, k4, k5⟩ := blk3f hB2
    have HB1 := hid hB1
    have HB2 := hid hB2
    clear hB0 hB1 hB2
    go_wp2
    clear j0 j1 k0 k1 k2 k3 k4 k5 htab
    go_loopw [5, 24] (fun l i wr => ∃ (k : Nat) (left : List UInt8) (lo : Option Addr) (lc : Nat) (acc : List UInt64) (bo : Option Addr) (bc : Nat), k ≤ m ∧ i = .int .i64 k ∧ l = .slice lo left.length lc ∧ left.length ≤ 9223372036854775807 ∧ Hid (Byt w (.slice lo left.length lc) left) ∧ Hid (acc.length = k) ∧ Hid (GR m k body acc left) ∧ Hid (OwV uv wr (w.heap.size + 3) 28 (.slice bo k bc) acc) ∧
      Hid (wr.heap[w.heap.size + 1]? = some (.cells #[.int .i64 0, .slice none 0 0, .string ⟨#[]⟩] 61 (0, 0))) ∧ Hid (wr.heap[w.heap.size + 1 + 1]? = some (.cells #[.int .i64 (kind.toNat : Int), .slice bo k bc, .string ⟨#[]⟩] 61 (0, 0))) ∧ Hid (Ext w wr) ∧ Hid (w.heap.size + 3 ≤ wr.heap.size)) (fun _ i _ => m - (intOf i).toNat)
    case atStart =>
      refine ⟨0, body, ao, cap, [], none, 0, by omega, rfl, rfl, ?_, HB, rfl, GR.start _ _, World.ownsRow_nil _ _ _ _, HB1, HB2, HE, by show _ ≤ _; have := HS3.out; omega⟩
      obtain ⟨_, _, e, h1, h2, -⟩ := HB.out.open
      omega
    case round =>
      obtain ⟨k, left, lo, lc, acc, bo, bc, hk, rfl, rfl, hleft, HL, HA, HG, HO, HB1, HB2, HE, HSZ⟩ := hrel
      obtain ⟨j0, j1, j2, j3, j4, j5⟩ := blk3f HB1.out
      obtain ⟨k0, k1, k2, k3, k4, k5⟩ := blk3f HB2.out
      have hsz0 : w.heap.size + 3 ≤ wr.heap.size := HSZ.out
      by_cases hlt : k < m
      · obtain ⟨n, u, e, hv⟩ : ∃ n u e, vget left = (n, u, e) := ⟨_, _, _, rfl⟩
        have HV := hid hv
        clear hv
        by_cases he : e = 0
        · subst he
          have hok := vget_ok HV.out
          have hus := vget_used HV.out
          have hn := hok.1
          have hI1 : (u : Int) ≤ left.length := by omega
          have hul : u ≤ left.length := hus.2
          have hstep := HG.out.step hlt (by rw [HV.out])
          rw [HV.out] at hstep
          have HS := hid hstep
          have HDR := hid fun ao' hao => Vec.drop (f := bv) HL.out u hul ao' hao (left.length - u) (lc - u) rfl rfl
          have hlc : left.length ≤ lc := by
            obtain ⟨_, _, e, h1, h2, -⟩ := HL.out.open
            cases e; exact h1
          clear hok hus hstep
          go_wp2_with fail
          refine (vget_any _ left _ (HL.out.ext HE.out)).mono ?_
          rintro e w1 ⟨rfl, rfl⟩
          rw [HV.out]
          have hE1 := Ext.alloc wr (.cells #[.int .u64 (n : Int)] 28)
          have hS1 : wr.heap.size + 1 = (wr.alloc (.cells #[.int .u64 (n : Int)] 28)).heap.size := by simp
          have hV1 := Vec.one (f := uv) wr 28 (.int .u64 (n : Int)) (UInt64.ofNat n) (by simp [uv]; omega)
          have HO1 := hid (HO.out.ext hE1)
          have HE1 := hid (HE.out.trans hE1)
          have HB3 := hid (hE1.obj HB1.out)
          have HB4 := hid (hE1.obj HB2.out)
          have HV1 := hid hV1
          clear hE1 hV1
          go_wp2_with (at_builtin; refine wpList_append_vec uv_one rfl (.tmp 37) (.tmp 39) 59 rfl (w.heap.size + 3) 28 Tryd.underlying59 info64 rfl rfl HO1.out rfl HV1.out (k + 1) (by rw [HA.out]; rfl) (by omega) (by omega) (by omega) ?_; intro ao2 cap2 w2 hown2 hg2 hb2; obtain ⟨p0, p1, p2, p3, p4, p5⟩ := blk3f (below_obj hb2 (by omega) HB4.out); obtain ⟨HOW, HBE⟩ := And.intro (hid hown2) (hid hb2); clear hown2 hg2 hb2)
          go_roundw
          case rel =>
            have hb1 := below_obj HBE.out (by omega) HB3.out
            have hb2 := Go.Joins.block_setCell (i := 1) (below_obj HBE.out (by omega) HB4.out) (.slice ao2 (k + 1) cap2)
            have hE := Below.trans HE1.out (HBE.out.mono (by omega))
            have hsz2 := HBE.out.size
            refine ⟨k + 1, left.drop u, (if lc = u then lo else Option.map (fun x => x.add u) lo), lc - u, acc ++ [UInt64.ofNat n], ao2, cap2, by omega, by go_num, by rw [List.length_drop], by simp; omega, hid ?_, hid (by simp [HA.out]), HS, owv_setLow HOW.out _ _ (by dsimp only; omega), hid ?_, hid hb2, Below.setCell hE (by dsimp only; omega) _, hid (by simp; omega)⟩
            · rw [List.length_drop]; exact HDR.out _ rfl
            · rw [heap_setCell_other _ _ _ _ (by dsimp only; omega)]; exact hb1
          case measure => simp [intOf]; omega
        · have hne : ((e : Int) != 0) = true := by rw [bne_iff_ne]; omega
          have hg := HG.out.err hlt (by rw [HV.out]; exact he)
          rw [HV.out, ← HMM.out] at hg
          have hR := HR.out
          rw [hg, if_pos he] at hR
          have HR2 := hid hR
          clear hg hR
          have hB1' := Go.Joins.block_setCell (i := 2) (Go.Joins.block_setCell (i := 1) (Go.Joins.block_setCell (i := 0) HB1.out (.int .i64 0)) (.slice none 0 0)) (.string ⟨#[]⟩)
          go_wp2_with fail
          refine (vget_any _ left _ (HL.out.ext HE.out)).mono ?_
          rintro e w1 ⟨rfl, rfl⟩
          rw [HV.out]
          go_wp2
          obtain ⟨m0, m1, m2, -⟩ := blk3f hB1'
          refine bodyPost_ret (read5_results _ _ _ _ _ _ rfl m0 m1 m2) rfl ?_
          unfold ReadR5
          rw [HR2.out]
          have hE := HE.out
          exact ⟨.slice none 0 0, rfl, World.ownsRow_nil _ _ _ _, by (repeat' (first | (with_reducible exact Below.refl _ _) | (with_reducible assumption) | (with_reducible refine Below.alloc ?_ ?_ _) | (with_reducible refine Below.drew ?_) | (with_reducible refine Below.setCell ?_ ?_ _) | (refine Go.Tum.Ext.trans ?_ (by with_reducible assumption)) | go_size))⟩
      · obtain rfl : k = m := by omega
        have hg := HG.out.fin
        rw [HMM.out] at HR
        have hR := HR.out
        rw [hg] at hR
        obtain ⟨TB, hTB⟩ : ∃ TB, textB (kind.toNat : Int) left.length = TB := ⟨_, rfl⟩
        simp only [hTB, ne_eq, not_true_eq_false, if_false] at hR
        have HTB := hid hTB
        have HR2 := hid hR
        clear hg hR hTB
        go_wp2_with fail
        refine (textR_any (kind.toNat : Int) left.length _).mono ?_
        rintro e w1 ⟨rfl, rfl⟩
        rw [HTB.out]
        cases TB with
        | false =>
          have hB1' := Go.Joins.block_setCell (i := 2) (Go.Joins.block_setCell (i := 1) (Go.Joins.block_setCell (i := 0) HB1.out (.int .i64 0)) (.slice none 0 0)) (.string ⟨#[]⟩)
          go_wp2
          obtain ⟨m0, m1, m2, -⟩ := blk3f hB1'
          refine bodyPost_ret (read5_results _ _ _ _ _ _ rfl m0 m1 m2) rfl ?_
          unfold ReadR5
          rw [HR2.out]
          have hE := HE.out
          exact ⟨.slice none 0 0, rfl, World.ownsRow_nil _ _ _ _, by (repeat' (first | (with_reducible exact Below.refl _ _) | (with_reducible assumption) | (with_reducible refine Below.alloc ?_ ?_ _) | (with_reducible refine Below.drew ?_) | (with_reducible refine Below.setCell ?_ ?_ _) | (refine Go.Tum.Ext.trans ?_ (by with_reducible assumption)) | go_size))⟩
        | true =>
          have e1 := run_string_byt (P := Tryd.prog) (HL.out.ext HE.out) 35 9 5 Tryd.underlying35 Tryd.underlying5 Tryd.underlying9
          go_wp2
          have hb1 : (wr.setCell ⟨w.heap.size + 1 + 1, 2, none⟩ (.string (str left))).heap[w.heap.size + 1]? = some (.cells #[.int .i64 0, .slice none 0 0, .string ⟨#[]⟩] 61 (0, 0)) := by
            rw [heap_setCell_other _ _ _ _ (by dsimp only; omega)]; exact HB1.out
          have hB1' := Go.Joins.block_setCell (i := 2) (Go.Joins.block_setCell (i := 1) (Go.Joins.block_setCell (i := 0) hb1 (.int .i64 (kind.toNat : Int))) (.slice bo k bc)) (.string (str left))
          obtain ⟨m0, m1, m2, -⟩ := blk3f hB1'
          refine bodyPost_ret (read5_results _ _ _ _ _ _ rfl m0 m1 m2) rfl ?_
          unfold ReadR5
          rw [HR2.out]
          have hE := HE.out
          refine ⟨.slice bo k bc, rfl, ?_, by (repeat' (first | (with_reducible exact Below.refl _ _) | (with_reducible assumption) | (with_reducible refine Below.alloc ?_ ?_ _) | (with_reducible refine Below.drew ?_) | (with_reducible refine Below.setCell ?_ ?_ _) | (refine Go.Tum.Ext.trans ?_ (by with_reducible assumption)) | go_size))⟩
          exact OwV.mono (owv_setLow (owv_setLow (owv_setLow (owv_setLow HO.out _ _ (by dsimp only; omega)) _ _ (by dsimp only; omega)) _ _ (by dsimp only; omega)) _ _ (by dsimp only; omega)) (by omega)
end Go.Proofs.YtiblhopjhpflpaaDoor
