/- Package record: Same; the document's Large, Ints. -/
import Derived.Test.YtafdandnbbbdfaaDoorRecE
namespace Go.Proofs.YtafdandnbbbdfaaDoor
open Go.RowKit Go.Tum Go.Tum.Crc Go.Tum.Vint

def recSame (a b : Rc) : Bool := decide (a = b)
theorem recSame_eq (a b : Rc) : recSame a b = ((a.kind == b.kind) && ((a.n == b.n) && (a.text == b.text))) := by
  unfold recSame
  cases a; cases b
  simp only [Rc.mk.injEq]
  rw [Bool.eq_iff_iff]; simp
theorem str_inj {a b : List UInt8} : str a = str b ↔ a = b := ⟨fun h => by rw [← str_data a, h, str_data b], fun h => by rw [h]⟩

theorem same5_any (a b : Rc) (u v : Value) (w : World) (ha : Vec uv w u a.n) (hb : Vec uv w v b.n) :
    Calls Tryd.prog 18 #[rv a u, rv b v] w fun e w' => e = .returned (.bool (recSame a b)) ∧ Ext w w' := by
  obtain ⟨ao, cap, rfl, -⟩ := ha.open
  obtain ⟨bo, cbp, rfl, -⟩ := hb.open
  obtain ⟨k1, n1, t1⟩ := a
  obtain ⟨k2, n2, t2⟩ := b
  have HA := hid ha
  have HB := hid hb
  clear ha hb
  have HS := hid (recSame_eq ⟨k1, n1, t1⟩ ⟨k2, n2, t2⟩)
  obtain ⟨KB, hk⟩ : ∃ KB, (k1 == k2) = KB := ⟨_, rfl⟩
  obtain ⟨NB, hn⟩ : ∃ NB, (n1 == n2) = NB := ⟨_, rfl⟩
  obtain ⟨TB, ht⟩ : ∃ TB, (t1 == t2) = TB := ⟨_, rfl⟩
  have hS := HS.out
  simp only [hk, hn, ht] at hS
  replace HS := hid hS
  have HN := hid hn
  clear hS hn
  have hE1 := Ext.alloc w (.cells #[.int .i64 k1, .slice ao n1.length cap, .string (str t1)] 24)
  have hS1 : (w.alloc (.cells #[.int .i64 k1, .slice ao n1.length cap, .string (str t1)] 24)).heap.size = w.heap.size + 1 := by simp
  obtain ⟨c0, c1, c2⟩ := blk3 (heap_alloc_new w (.cells #[.int .i64 k1, .slice ao n1.length cap, .string (str t1)] 24))
  have HE0 := hid (hE1.trans (Ext.alloc _ (.cells #[.int .i64 k2, .slice bo n2.length cbp, .string (str t2)] 24)))
  cases KB with
  | false =>
    clear hE1 hS1 c0 c1 c2
    go_enter Tryd.func18, Tryd.ntmps18
    go_wp2
    go_ret
    rw [HS.out]
    exact ⟨rfl, HE0.out⟩
  | true =>
    cases NB with
    | false =>
      go_enter Tryd.func18, Tryd.ntmps18
      go_wp2_with fail
      generalize w.alloc (.cells #[.int .i64 k1, .slice ao n1.length cap, .string (str t1)] 24) = W1 at *
      have hE2 := Ext.alloc W1 (.cells #[.int .i64 k2, .slice bo n2.length cbp, .string (str t2)] 24)
      obtain ⟨d0, d1, d2⟩ := blk3 (heap_alloc_new W1 (.cells #[.int .i64 k2, .slice bo n2.length cbp, .string (str t2)] 24))
      rw [hS1] at d0 d1 d2
      generalize W1.alloc (.cells #[.int .i64 k2, .slice bo n2.length cbp, .string (str t2)] 24) = W at *
      have HE := hid (hE1.trans hE2)
      have C0 := hid (hE2.cell c0)
      have C1 := hid (hE2.cell c1)
      have C2 := hid (hE2.cell c2)
      have D0 := hid d0
      have D1 := hid d1
      have D2 := hid d2
      clear hE1 hE2 hS1 c0 c1 c2 d0 d1 d2
      refine (eq64_any _ _ n1 n2 _ (HA.out.ext HE.out) (HB.out.ext HE.out)).mono ?_
      rintro e w2 ⟨rfl, hX⟩
      rw [HN.out]
      have x2 := hX.cell C2.out
      have y2 := hX.cell D2.out
      go_wp2
      go_ret
      rw [HS.out]
      exact ⟨rfl, HE.out.trans hX⟩
    | true =>
      go_enter Tryd.func18, Tryd.ntmps18
      go_wp2_with fail
      generalize w.alloc (.cells #[.int .i64 k1, .slice ao n1.length cap, .string (str t1)] 24) = W1 at *
      have hE2 := Ext.alloc W1 (.cells #[.int .i64 k2, .slice bo n2.length cbp, .string (str t2)] 24)
      obtain ⟨d0, d1, d2⟩ := blk3 (heap_alloc_new W1 (.cells #[.int .i64 k2, .slice bo n2.length cbp, .string (str t2)] 24))
      rw [hS1] at d0 d1 d2
      generalize W1.alloc (.cells #[.int .i64 k2, .slice bo n2.length cbp, .string (str t2)] 24) = W at *
      have HE := hid (hE1.trans hE2)
      have C0 := hid (hE2.cell c0)
      have C1 := hid (hE2.cell c1)
      have C2 := hid (hE2.cell c2)
      have D0 := hid d0
      have D1 := hid d1
      have D2 := hid d2
      clear hE1 hE2 hS1 c0 c1 c2 d0 d1 d2
      refine (eq64_any _ _ n1 n2 _ (HA.out.ext HE.out) (HB.out.ext HE.out)).mono ?_
      rintro e w2 ⟨rfl, hX⟩
      rw [HN.out]
      have x2 := hX.cell C2.out
      have y2 := hX.cell D2.out
      go_wp2
      go_ret
      rw [HS.out]
      exact ⟨rfl, HE.out.trans hX⟩

def largeB (r : Rc) : Bool := decide (100 < r.n.length) || decide (300 < r.text.length)
theorem large_any (r : Rc) (v : Value) (w : World) (hv : Vec uv w v r.n) :
    Calls Tryd.prog 8 #[rv r v] w fun e w' => e = .returned (.bool (largeB r)) ∧ Ext w w' := by
  obtain ⟨ao, cap, rfl, -⟩ := hv.open
  obtain ⟨kind, n, text⟩ := r
  clear hv
  have HL := hid (show largeB ⟨kind, n, text⟩ = (decide (100 < n.length) || decide (300 < text.length)) from rfl)
  have hsz := str_size text
  have hE := Ext.alloc w (.cells #[.int .i64 kind, .slice ao n.length cap, .string (str text)] 30)
  have HE := hid hE
  clear hE
  by_cases h1 : 100 < n.length
  · have e1 : decide ((100 : Int) < n.length) = true := by simp; omega
    go_enter Tryd.func8, Tryd.ntmps8
    go_wp2
    go_ret
    refine ⟨?_, HE.out⟩
    rw [HL.out]; simp [h1]
  · have e1 : decide ((100 : Int) < n.length) = false := by simp; omega
    go_enter Tryd.func8, Tryd.ntmps8
    go_wp2
    go_ret
    refine ⟨?_, HE.out⟩
    rw [HL.out]; simp [h1]; try omega

abbrev iv (n : Nat) : Value := .int .i64 (n : Int)
theorem ints_any (u v : Value) (l m : List Nat) (w : World) (hb : Vec iv w u l) (hc : Vec iv w v m) :
    Calls Tryd.prog 21 #[u, v] w fun e w' => e = .returned (.bool (l == m)) ∧ Ext w w' := by
  obtain ⟨ao, cap, rfl, hle, hm, hnn, hcell⟩ := hb.open
  obtain ⟨bo, cbp, rfl, hle2, hm2, hnn2, hcell2⟩ := hc.open
  clear hb hc
  have HC := hid hcell
  have HC2 := hid hcell2
  clear hcell hcell2
  by_cases hlen : l.length = m.length
  · have hne : ((l.length : Int) != (m.length : Int)) = false := by simp [hlen]
    go_enter Tryd.func21, Tryd.ntmps21
    have HL := hid hlen
    clear hlen
    go_wp2
    go_loopw [5] (fun i wr => ∃ k : Nat, k ≤ l.length ∧ i = .int .i64 k ∧ Hid (l.take k = m.take k) ∧ ∃ n, wr = w.drewN n) (fun i _ => l.length - (intOf i).toNat)
    case atStart => exact ⟨0, by omega, rfl, hid rfl, 0, rfl⟩
    case round =>
      obtain ⟨k, hk, rfl, HE, n, rfl⟩ := hrel
      by_cases hlt : k < l.length
      · obtain ⟨a, rfl⟩ := hnn (by omega)
        have hlt2 : k < m.length := by rw [← HL.out]; exact hlt
        obtain ⟨b, rfl⟩ := hnn2 (by omega)
        have hc1 := HC.out a rfl k hlt
        have hc2 := HC2.out b rfl k hlt2
        have hi1 : (k : Int) < l.length := by omega
        have hi2 : (k : Int) < m.length := by omega
        go_wp2
        by_cases he : l[k] = m[k]
        · have ht : ((l[k] : Int) != (m[k] : Int)) = false := by simp [he]
          go_quiet (fail)
          go_wp2
          go_roundw
          case rel => exact ⟨k + 1, by omega, by go_num, hid (by rw [List.take_succ_eq_append_getElem hlt, List.take_succ_eq_append_getElem hlt2, HE.out, he]), _, rfl⟩
          case measure => simp [intOf]; omega
        · have ht : ((l[k] : Int) != (m[k] : Int)) = true := by
            simp; intro e; exact he (by omega)
          go_quiet (fail)
          go_wp2
          go_ret
          refine ⟨?_, (Ext.drewN _ _).trans (Ext.drewN _ _)⟩
          have : (l == m) = false := by
            rw [beq_eq_false_iff_ne]; intro e; subst e; exact he rfl
          rw [this]; rfl
      · obtain rfl : k = l.length := by omega
        go_wp2
        go_ret
        refine ⟨?_, Ext.drewN _ _⟩
        have : (l == m) = true := by
          have := HE.out
          rw [List.take_length, HL.out, List.take_length] at this
          rw [this]; simp
        rw [this]; rfl
  · have hne : ((l.length : Int) != (m.length : Int)) = true := by simp; omega
    have hf : (l == m) = false := by rw [beq_eq_false_iff_ne]; intro e; exact hlen (by rw [e])
    have HF := hid hf
    clear hf
    go_enter Tryd.func21, Tryd.ntmps21
    go_wp2
    go_ret
    exact ⟨by rw [HF.out]; rfl, Ext.refl _⟩
end Go.Proofs.YtafdandnbbbdfaaDoor
