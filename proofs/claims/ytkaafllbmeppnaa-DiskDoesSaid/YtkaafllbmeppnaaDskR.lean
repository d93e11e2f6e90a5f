/- Ranges over maps of pointers; Held. -/
import Derived.Test.YtkaafllbmeppnaaDskF
import Derived.Maps.RangeWalk
import Derived.Test.YtkaafllbmeppnaaOpen
set_option linter.unusedSimpArgs false
set_option linter.unusedVariables false
namespace Go.Proofs.Ytkaafllbmeppnaa
open Go Go.RowKit Go.Tum Go.ChangeMaps
open Go.ParB (upd Lof)
open Go.ParE (putS slotsR slots Closed)

/-- A range over the map m of l, its iterator in block r: what is still to come. -/
def RNG (w : World) (m r : Nat) (l rem : Dir) (cnt : Nat) : Prop := ∃ (D : DU) (left : Lit → Bool) (n : Nat), w.ranges Try.prog 9 rdP m r n D left cnt ∧ (∀ x z, D.atKey (kN x) z = match l.lookup x with | none => z | some b => .lit (.int .i64 (b : Int))) ∧
  rem = l.filter (fun z => left (kN z.1)) ∧ (l.map Prod.fst).Nodup ∧ n = l.length ∧ Maps.size D = l.length
theorem RNG.left {w : World} {m r cnt : Nat} {l rem : Dir} (h : RNG w m r l rem cnt) : w.rangeLeft m r = cnt := by
  obtain ⟨D, left, n, h1, -⟩ := h
  exact h1.left_eq
theorem RNG.pm {w : World} {m r cnt : Nat} {l rem : Dir} (h : RNG w m r l rem cnt) : PM w m l := by
  obtain ⟨D, left, n, h1, h2, -, -, h3, h4⟩ := h
  subst h3
  exact ⟨D, h1.owns, h4, h2⟩
theorem RNG.kept {w w' : World} {m r cnt : Nat} {l rem : Dir} {S : List Nat} (h : RNG w m r l rem cnt) (f : Fr S w w') (h1 : m ∉ S) (h2 : r ∉ S) : RNG w' m r l rem cnt := by
  obtain ⟨D, left, n, ⟨es, clock, since, seen, c0, hb, F, hs, hD, hr, rest⟩, k2, k3, k4, k5, k6⟩ := h
  exact ⟨D, left, n, ⟨es, clock, since, seen, c0, (f.block m (Array.getElem?_eq_some_iff.1 hb).1 h1).trans hb, F, hs, hD, (f.block r (Array.getElem?_eq_some_iff.1 hr).1 h2).trans hr, rest⟩, k2, k3, k4, k5, k6⟩
theorem nodup_lookup {l : Dir} (hn : (l.map Prod.fst).Nodup) {z : Nm × Nat} (hz : z ∈ l) : l.lookup z.1 = some z.2 := by
  induction l with
  | nil => simp at hz
  | cons y r ih =>
    rw [List.map_cons, List.nodup_cons] at hn
    obtain ⟨a, b⟩ := y
    rw [lk_cons]
    rcases List.mem_cons.1 hz with rfl | hz
    · simp
    · have : z.1 ≠ a := fun e => hn.1 (List.mem_map.2 ⟨z, hz, e⟩)
      rw [if_neg this]; exact ih hn.2 hz
theorem PM.range {w : World} {m : Nat} {l : Dir} (h : PM w m l) (hn : (l.map Prod.fst).Nodup) :
    ∃ w', (Instr.range 60 (.map (some m))).run Try.prog w = .ok (.pointer (some ⟨w.heap.size, 0, none⟩)) w' ∧ RNG w' m w.heap.size l l l.length ∧ Ext w w' := by
  obtain ⟨D, h1, h2, h3⟩ := h
  obtain ⟨w', r1, r2, r3, r4⟩ := h1.range keyedS Try.underlying60
  refine ⟨w', r1, ⟨D, _, l.length, by rw [h2] at r2; exact r2, h3, ?_, hn, rfl, h2⟩, Ext.grown r3 rfl⟩
  refine (List.filter_eq_self.2 fun z hz => ?_).symm
  rw [PM.has (w := w) (m := m) h3 z.1, nodup_lookup hn hz]; rfl
theorem RNG.next {w : World} {m r cnt : Nat} {l rem : Dir} (h : RNG w m r l rem cnt) (ty : TypeId) :
    (rem = [] ∧ (Instr.next (.pointer (some ⟨r, 0, none⟩)) false ty).run Try.prog w = .ok (.tuple #[.bool false]) w) ∨
    ∃ (z : Nm × Nat) (w' : World) (cnt' : Nat), z ∈ rem ∧ z ∈ l ∧ z.1.length ≤ maxLen ∧ (Instr.next (.pointer (some ⟨r, 0, none⟩)) false ty).run Try.prog w = .ok (.tuple #[.bool true, vN z.1, bp z.2]) w' ∧ RNG w' m r l (noN rem z.1) cnt' ∧ cnt' < cnt ∧ Fr [r] w w' ∧ (Instr.entry (.pointer (some ⟨r, 0, none⟩))).run Try.prog w' = .ok (.tuple #[vN z.1, bp z.2]) w' := by
  obtain ⟨D, left, n, h1, h2, h3, h4, h5, h6⟩ := h
  rcases h1.next keyedS ty with ⟨-, k1, k2⟩ | ⟨key, v, kl, y, w', cnt', k1, k2, k3, k4, k5, k6, k7, k8, k9, k10⟩
  · left
    refine ⟨?_, k2⟩
    rw [h3]
    exact List.filter_eq_nil_iff.2 fun z hz => by rw [k1]; simp
  · right
    obtain ⟨nm, rfl, rfl, hlen⟩ := key_inv k1
    cases hlk : l.lookup nm with
    | none =>
      exfalso
      have a1 := k4 .nil
      have a2 := k4 (.lit (.int .i64 0))
      rw [h2, hlk] at a1 a2
      simp only at a1 a2
      rw [← a1] at a2
      cases a2
    | some b =>
      have a1 := k4 .nil
      rw [h2, hlk] at a1
      simp only at a1
      obtain ⟨y1, y2⟩ := y
      simp only at a1
      subst a1
      have hv : v = ptr (some b) := rdP_inv (some b) k3
      subst hv
      have hz : (nm, b) ∈ l := look_mem hlk
      refine ⟨(nm, b), w', cnt', ?_, hz, hlen, k5, ⟨D, _, n, k6, h2, ?_, h4, h5, h6⟩, k7, ⟨k8.os, k8.tape, k8.output, k8.size, fun j hj hn => k8.block j hj fun e => hn (by cases e; simp)⟩, k10⟩
      · rw [h3]; exact List.mem_filter.2 ⟨hz, k2⟩
      · rw [h3]
        unfold noN
        rw [List.filter_filter]
        refine List.filter_congr fun z hz => ?_
        by_cases e : z.1 = nm
        · rw [e, WideAt.sameKey_self (by simp [WideAt.IsKeyLit])]; simp
        · rw [Maps.sameKey_ne (kN_ne e)]; simp [e]
section
variable (w : World) {ops : Array Oper} {rest : List Oper} {o : Oper} {a : Act} {Q : Exit → Act → World → Prop}
theorem wpList_range_PM (hg : o.guard = none) (mo : Operand) (hop : o.op = Op.range 60 mo) (m : Nat) (l : Dir) (hm : a.eval mo = .map (some m)) (h : PM w m l) (hn : (l.map Prod.fst).Nodup)
    (hK : ∀ w', RNG w' m w.heap.size l l l.length → Ext w w' → wpList Try.prog ops Q rest (a.put o.dst (.pointer (some ⟨w.heap.size, 0, none⟩))) w') : wpList Try.prog ops Q (o :: rest) a w := by
  refine wpList_plain hg fun K' hK' => ?_
  obtain ⟨w', hrun, r1, r2⟩ := h.range hn
  unfold Oper.wp
  simp [execOp, hop, hm, hrun, Result.andThen]
  exact hK' _ _ (hK w' r1 r2)
theorem wpList_next_RNG (hg : o.guard = none) (it : Operand) (hop : o.op = Op.next it false) (m r cnt : Nat) (l rem : Dir) (hit : a.eval it = .pointer (some ⟨r, 0, none⟩)) (h : RNG w m r l rem cnt)
    (hDone : rem = [] → wpList Try.prog ops Q rest (a.put o.dst (.tuple #[.bool false])) w)
    (hMore : ∀ (n : Nm) (b : Nat) (w' : World) (cnt' : Nat), (n, b) ∈ rem → (n, b) ∈ l → n.length ≤ maxLen → RNG w' m r l (noN rem n) cnt' → cnt' < cnt → Fr [r] w w' → (Instr.entry (.pointer (some ⟨r, 0, none⟩))).run Try.prog w' = .ok (.tuple #[vN n, bp b]) w' → wpList Try.prog ops Q rest (a.put o.dst (.tuple #[.bool true, vN n, bp b])) w') :
    wpList Try.prog ops Q (o :: rest) a w := by
  refine wpList_plain hg fun K' hK' => ?_
  unfold Oper.wp
  rcases h.next o.type with ⟨h0, hrun⟩ | ⟨z, w', cnt', k1, k2, k3, k4, k5, k6, k7, k8⟩
  · simp [execOp, hop, hit, hrun, Result.andThen]
    exact hK' _ _ (hDone h0)
  · simp [execOp, hop, hit, k4, Result.andThen]
    exact hK' _ _ (hMore z.1 z.2 w' cnt' k1 k2 k3 k5 k6 k7 k8)
end
/-- Bytes of what is still to come. -/
def remL (x : DX) (s : PS) (rem : Dir) : Nat := sumL s.files ((s.sure.filter fun z => rem.any fun y => y.1 == z.1).map Prod.snd)
theorem sum_strike (fs : List (List UInt8 × Nat)) (n : Nm) (f : Nat) : ∀ (d : Dir), (d.map Prod.fst).Nodup → (n, f) ∈ d → sumL fs (d.map Prod.snd) = flen fs f + sumL fs ((noN d n).map Prod.snd)
  | [], _, h => absurd h (by simp)
  | (a, b) :: r, hn, h => by
    rw [List.map_cons, List.nodup_cons] at hn
    unfold sumL noN
    by_cases e : a = n
    · subst e
      have hb : b = f := by
        rcases List.mem_cons.1 h with e2 | e2
        · cases e2; rfl
        · exact absurd (List.mem_map.2 ⟨_, e2, rfl⟩) hn.1
      subst hb
      have : (r.filter fun p => p.1 != a) = r := List.filter_eq_self.2 fun z hz => by
        have : z.1 ≠ a := fun e => hn.1 (List.mem_map.2 ⟨z, hz, e⟩)
        simpa using this
      rw [List.filter_cons]
      simp [this]
    · have h2 : (n, f) ∈ r := by
        rcases List.mem_cons.1 h with e2 | e2
        · cases e2; exact absurd rfl e
        · exact e2
      have ih := sum_strike fs n f r hn.2 h2
      unfold sumL noN at ih
      rw [List.filter_cons]
      simp [e]
      simp at ih
      omega
theorem sorted_nodup {d : Dir} (h : Sorted d) : (d.map Prod.fst).Nodup := by
  rw [List.nodup_iff_pairwise_ne, List.pairwise_map]
  refine List.Pairwise.imp ?_ h
  intro a b hlt e
  rw [e] at hlt
  exact nm_irrefl _ hlt
theorem hb_noN (x : DX) (d : Dir) (n : Nm) : noN (x.hb d) n = x.hb (noN d n) := by
  unfold noN DX.hb
  rw [List.filter_map]; rfl
theorem hb_fst (x : DX) (d : Dir) : (x.hb d).map Prod.fst = d.map Prod.fst := by
  unfold DX.hb
  rw [List.map_map]; rfl
theorem hb_mem {x : DX} {d : Dir} {n : Nm} {b : Nat} (h : (n, b) ∈ x.hb d) : ∃ f, (n, f) ∈ d ∧ b = x.bk f := by
  obtain ⟨z, hz, e⟩ := List.mem_map.1 h
  cases e
  exact ⟨z.2, hz, rfl⟩
theorem sum_le {fs : List (List UInt8 × Nat)} {l : List Nat} {f : Nat} (h : f ∈ l) : flen fs f ≤ sumL fs l := by
  unfold sumL
  induction l with
  | nil => simp at h
  | cons a r ih =>
    rw [List.map_cons, List.sum_cons]
    rcases List.mem_cons.1 h with rfl | h
    · omega
    · have := ih h; omega
theorem sumL_append (fs : List (List UInt8 × Nat)) (a b : List Nat) : sumL fs (a ++ b) = sumL fs a + sumL fs b := by
  unfold sumL
  rw [List.map_append, List.sum_append]
theorem newOf_append (a b : List Chg) : newOf (a ++ b) = newOf a ++ newOf b := by unfold newOf; rw [List.filterMap_append]
theorem Dk.file {B : Nat} {w : World} {p : Nat} {x : DX} {s : PS} (h : Dk B w p x s) {f : Nat} (hf : f < s.files.length) : ∃ ao cap, w.heap[x.bk f]? = some (fileO (.slice ao (flen s.files f) cap) (s.files.getD f ([], 0)).2) ∧ x.sv f = .slice ao (flen s.files f) cap ∧ Own w B 5 (.slice ao (flen s.files f) cap) (s.files.getD f ([], 0)).1 := by
  obtain ⟨a, b⟩ := h.fi f hf
  obtain ⟨ao, cap, e⟩ := row_shape b
  have e2 : s.files.getD f ([], 0) = s.files[f] := by rw [List.getD_eq_getElem?_getD, List.getElem?_eq_getElem hf]; rfl
  have e3 : flen s.files f = s.files[f].1.length := by unfold flen; rw [e2]
  refine ⟨ao, cap, ?_, ?_, ?_⟩
  · rw [e3, ← e, e2]; exact a
  · rw [e3]; exact e
  · rw [e3, ← e, e2]; exact b
theorem newOf_step {l : List Chg} {j : Nat} (h : j < l.length) : newOf (l.take (j + 1)) = newOf (l.take j) ++ (if l[j].frm = [] then l[j].file.toList else []) := by
  rw [List.take_succ_eq_append_getElem h, newOf_append]
  congr 1
  unfold newOf
  rw [List.filterMap_cons]
  split
  · rename_i e
    split at e
    · rename_i e2; rw [if_pos e2, e]; rfl
    · rename_i e2; rw [if_neg e2]; rfl
  · rename_i f e
    split at e
    · rename_i e2; rw [if_pos e2, e]; rfl
    · cases e
set_option maxRecDepth 100000 in
set_option maxHeartbeats 2000000 in
theorem dheld_any {B : Nat} {w : World} {p : Nat} {x : DX} {s : PS} (h : Dk B w p x s) :
    Calls Try.prog 18 #[pv p] w fun e w' => e = .returned (.int .i64 (held s : Nat)) ∧ Ext w w' := by
  have H := hid h
  obtain ⟨⟨-, -, c2, -⟩, -⟩ := lk6 h.hd
  have HM := hid h.sr
  have HND : Hid (((x.hb s.sure).map Prod.fst).Nodup) := hid (by rw [hb_fst]; exact sorted_nodup h.gd.sures)
  clear h
  go_enter Try.func18, Try.ntmps18
  go_wp2_with (at_range; refine wpList_range_PM _ rfl _ rfl x.ms (x.hb s.sure) rfl HM.out HND.out ?_; intro w0 hrg0 hE0; have HRG := hid hrg0; have HE0 := hid hE0; clear hrg0 hE0)
  clear c2
  obtain ⟨r, hr⟩ : ∃ r, w.heap.size = r := ⟨_, rfl⟩
  rw [hr] at HRG ⊢
  have HR := hid hr
  clear hr
  go_frame
  go_loopw [3] (fun v wr => ∃ (d : Dir) (cnt acc : Nat), v = .int .i64 acc ∧ Hid (RNG wr x.ms r (x.hb s.sure) (x.hb d) cnt) ∧ Hid (acc + sumL s.files (d.map Prod.snd) = sumL s.files (s.sure.map Prod.snd)) ∧ Hid (∀ z ∈ d, z ∈ s.sure) ∧ Hid ((d.map Prod.fst).Nodup) ∧ Hid (Ext w wr)) (fun _ wr => wr.rangeLeft x.ms r)
  case atStart => exact ⟨s.sure, _, 0, rfl, HRG, hid (by omega), hid fun z hz => hz, hid (sorted_nodup H.out.gd.sures), HE0⟩
  case round =>
    obtain ⟨d, cnt, acc, rfl, HRG, HSUM, HSUB, HDN, HE⟩ := hrel
    go_wp2_with (at_next; refine wpList_next_RNG _ rfl _ rfl x.ms r cnt (x.hb s.sure) (x.hb d) rfl HRG.out ?_ ?_)
    · intro h0
      have hd0 : d = [] := by
        cases d with
        | nil => rfl
        | cons a b => simp [DX.hb] at h0
      have HACC : Hid (acc = sumL s.files (s.sure.map Prod.snd)) := hid (by have := HSUM.out; rw [hd0] at this; simpa [sumL] using this)
      have H2 := hid (H.out.ext HE.out)
      clear h0 hd0 HSUM HSUB HDN HRG
      obtain ⟨⟨-, -, -, c3, -⟩, -⟩ := lk6 H2.out.hd
      have hro : RowsOf wr 3 x.vo x.cc s.opn := ⟨fun _ _ => rfl, Sl.of_owns H2.out.op⟩
      obtain ⟨vo, vcap, hvo, hle, hmm, hnn, hcell⟩ := hro.open
      have HC := hid hcell
      have HNN := hid hnn
      rw [hvo] at c3
      clear hro hcell hnn hvo
      obtain ⟨wb, hwb⟩ : ∃ wb, wb = wr := ⟨_, rfl⟩
      subst hwb
      go_wp2
      go_loopw [3, 29] (fun v iv wr => ∃ (j acc2 : Nat), j ≤ s.opn.length ∧ iv = .int .i64 j ∧ v = .int .i64 acc2 ∧ Hid (acc2 = acc + sumL s.files (newOf (s.opn.take j))) ∧ Hid (Ext wb wr)) (fun _ iv _ => s.opn.length - (intOf iv).toNat)
      case atStart => exact ⟨0, acc, by omega, rfl, rfl, hid (by simp [newOf, sumL]), hid (Ext.refl _)⟩
      case round =>
        obtain ⟨j, acc2, hj, rfl, rfl, HA2, HE2⟩ := hrel
        by_cases hlt : j < s.opn.length
        · obtain ⟨g, rfl⟩ := HNN.out (by omega)
          have m0 := cell_first (HE2.out.cell (HC.out g rfl j hlt 0 _ rfl))
          have m1 := cell_next (HE2.out.cell (HC.out g rfl j hlt 1 _ rfl)) (by decide)
          have m2 := cell_next (HE2.out.cell (HC.out g rfl j hlt 2 _ rfl)) (by decide)
          have hi1 : decide ((j : Int) < s.opn.length) = true := by simp; omega
          obtain ⟨c, hc⟩ : ∃ c, s.opn[j] = c := ⟨_, rfl⟩
          have hcm : c ∈ s.opn := by rw [← hc]; exact List.getElem_mem hlt
          have hstep := newOf_step hlt
          rw [hc] at m0 m1 m2 hstep
          have HCM := hid hcm
          have HST := hid hstep
          have HLT := hid hlt
          clear hc hcm hstep
          cases hfile : c.file with
          | none =>
            have hne : c.frm ≠ [] := fun e => by
              have := (H.out.gd.op c HCM.out).2.2.2 e
              rw [hfile] at this; simp at this
            rw [hfile] at m2
            simp only [Option.map_none, ptr] at m2
            have HN2 : Hid (newOf (s.opn.take (j + 1)) = newOf (s.opn.take j)) := hid (by rw [HST.out, if_neg hne]; simp)
            have hb : c.frm.isEmpty = false := by cases hq : c.frm with
              | nil => exact absurd hq hne
              | cons a b => rfl
            have HB := hid hb
            clear hne hfile hb
            generalize c.frm = nf at *
            generalize c.to = nt at *
            go_wp2_with fail
            refine (dcre_any _ nf nt (.pointer none) rfl).mono ?_
            rintro e w5 ⟨rfl, E5⟩
            have HE5 : Hid (Ext wb w5) := hid ((HE2.out.trans (Ext.alloc _ _)).trans E5)
            rw [HB.out]
            clear E5 m0 m1 m2
            go_wp2
            go_roundw
            case rel => exact ⟨j + 1, acc2, by omega, by go_num, rfl, hid (by rw [HN2.out]; exact HA2.out), HE5⟩
            case measure => simp [intOf]; omega
          | some f =>
            rw [hfile] at m2
            simp only [Option.map_some, ptr] at m2
            have hfl : f < s.files.length := (H.out.gd.op c HCM.out).2.2.1 f hfile
            have HFL := hid hfl
            cases hb : c.frm.isEmpty with
            | false =>
              have hne : c.frm ≠ [] := fun e => by rw [e] at hb; simp at hb
              have HN2 : Hid (newOf (s.opn.take (j + 1)) = newOf (s.opn.take j)) := hid (by rw [HST.out, if_neg hne]; simp)
              have HB := hid hb
              clear hne hfile hb hfl
              generalize c.frm = nf at *
              generalize c.to = nt at *
              generalize x.bk f = bf at *
              go_wp2_with fail
              refine (dcre_any _ nf nt (bp bf) rfl).mono ?_
              rintro e w5 ⟨rfl, E5⟩
              have HE5 : Hid (Ext wb w5) := hid ((HE2.out.trans (Ext.alloc _ _)).trans E5)
              rw [HB.out]
              clear E5 m0 m1 m2
              go_wp2
              go_roundw
              case rel => exact ⟨j + 1, acc2, by omega, by go_num, rfl, hid (by rw [HN2.out]; exact HA2.out), HE5⟩
              case measure => simp [intOf]; omega
            | true =>
              have hne : c.frm = [] := by cases hq : c.frm with
                | nil => rfl
                | cons a b => rw [hq] at hb; simp at hb
              have HN2 : Hid (newOf (s.opn.take (j + 1)) = newOf (s.opn.take j) ++ [f]) := hid (by rw [HST.out, if_pos hne, hfile]; rfl)
              have HB := hid hb
              have hbound : acc2 + flen s.files f ≤ 1048576 := by
                have a2 := H.out.gd.hd
                have a3 := H.out.gd.rm
                unfold held cntd at a2
                rw [sumL_append] at a2
                have e1 : sumL s.files (newOf s.opn) = sumL s.files (newOf (s.opn.take (j + 1))) + sumL s.files (newOf (s.opn.drop (j + 1))) := by
                  rw [← sumL_append, ← newOf_append, List.take_append_drop]
                rw [HN2.out, sumL_append] at e1
                have e2 : sumL s.files [f] = flen s.files f := by simp [sumL]
                have := HA2.out
                have := HACC.out
                omega
              have hw1 : IntKind.i64.wrap ((acc2 : Int) + (flen s.files f : Int)) = (acc2 : Int) + (flen s.files f : Int) := IntWalk.i64_in _ (by omega)
              have HA3 : Hid (acc2 + flen s.files f = acc + sumL s.files (newOf (s.opn.take (j + 1)))) := hid (by
                rw [HN2.out, sumL_append]
                have e2 : sumL s.files [f] = flen s.files f := by simp [sumL]
                have := HA2.out
                omega)
              clear hne hfile hb hfl hbound
              generalize c.frm = nf at *
              generalize c.to = nt at *
              have hnb := heap_alloc_new wr (.cells #[vN nf, vN nt, bp (x.bk f)] 73 (0, 0))
              have HNB := hid hnb
              clear hnb
              go_wp2_with fail
              refine (dcre_any _ nf nt (bp (x.bk f)) rfl).mono ?_
              rintro e w5 ⟨rfl, E5⟩
              have HE5 : Hid (Ext wb w5) := hid ((HE2.out.trans (Ext.alloc _ _)).trans E5)
              rw [HB.out]
              obtain ⟨q0, q1, q2, -⟩ := lk3 (E5.obj HNB.out)
              obtain ⟨ao, cap, hblk, -, -⟩ := (H2.out.ext HE5.out).file HFL.out
              obtain ⟨r0, -, -⟩ := lk2 hblk
              clear E5 m0 m1 m2 hblk
              generalize flen s.files f = fl at *
              generalize x.bk f = bf at *
              go_wp2
              go_roundw
              case rel => exact ⟨j + 1, acc2 + fl, by omega, by go_num, by go_num, HA3, HE5⟩
              case measure => simp [intOf]; omega
        · obtain rfl : j = s.opn.length := by omega
          have hi1 : decide ((s.opn.length : Int) < s.opn.length) = false := by simp
          have HFIN : Hid (acc2 = held s) := hid (by
            have a1 := HA2.out
            rw [List.take_length] at a1
            unfold held cntd
            rw [sumL_append, a1, HACC.out])
          go_wp2
          go_ret
          refine ⟨?_, HE.out.trans HE2.out⟩
          rw [← HFIN.out]; rfl
    · intro n b w' cnt' k1 k2 k3 k4 k5 k6 k7
      obtain ⟨f, hf, rfl⟩ := hb_mem k1
      have hfl : f < s.files.length := (H.out.gd.snm (HSUB.out _ hf)).2
      have hE2 : Ext w w' := Below.trans HE.out (k6.below (by simp; have := HR.out; omega) HE.out.size)
      obtain ⟨ao, cap, hblk, -, -⟩ := (H.out.ext hE2).file hfl
      obtain ⟨c0, -, -⟩ := lk2 hblk
      have hst := sum_strike s.files n f d HDN.out hf
      have hle : acc + flen s.files f ≤ 1048576 := by
        have a1 := HSUM.out
        have a2 := H.out.gd.hd
        have a3 := H.out.gd.rm
        unfold held cntd at a2
        rw [sumL_append] at a2
        omega
      have hw1 : IntKind.i64.wrap ((acc : Int) + (flen s.files f : Int)) = (acc : Int) + (flen s.files f : Int) := IntWalk.i64_in _ (by omega)
      have HS2 : Hid (acc + flen s.files f + sumL s.files ((noN d n).map Prod.snd) = sumL s.files (s.sure.map Prod.snd)) := hid (by have := HSUM.out; omega)
      have HRG2 : Hid (RNG w' x.ms r (x.hb s.sure) (x.hb (noN d n)) cnt') := hid (by rw [← hb_noN]; exact k4)
      have HE2 := hid hE2
      have HK5 : Hid (w'.rangeLeft x.ms r < wr.rangeLeft x.ms r) := hid (by rw [k4.left, HRG.out.left]; exact k5)
      clear hblk hst hle k1 k2 k3 k4 k5 k6 hE2 hf
      generalize flen s.files f = fl at *
      go_wp2
      go_roundw
      case rel => exact ⟨noN d n, cnt', acc + fl, by go_num, HRG2, HS2, hid fun z hz => HSUB.out z (noN_mem.1 hz).1, hid ((List.filter_sublist.map Prod.fst).nodup HDN.out), HE2⟩
      case measure => exact HK5.out
end Go.Proofs.Ytkaafllbmeppnaa
