/- The document's list: Next. -/
import Derived.Test.YtfpljeblehieiaaDoorDedRA
import Derived.Test.YtfpljeblehieiaaDoorDedRM
set_option linter.unusedSimpArgs false
set_option linter.unusedVariables false
namespace Go.Proofs.YtfpljeblehieiaaDoor
open Go Go.RowKit Go.Tum Go.ChangeMaps Go.Sort Go.Tum.Rn
open Go.ParB (upd Lof)
open Go.ParE (putS slotsR slots Closed)

theorem encC_one (l : List Cur) : ∀ y ∈ l.flatMap encC, y.oneCell' = true := by
  intro y hy
  obtain ⟨z, -, hz⟩ := List.mem_flatMap.1 hy
  simp at hz
  rcases hz with rfl | rfl <;> rfl
theorem cur_drop {L : List Cur} {k : Nat} : (L.flatMap encC).drop (k * 2) = (L.drop k).flatMap encC := by
  induction L generalizing k with
  | nil => simp
  | cons z r ih =>
    cases k with
    | zero => simp
    | succ k => rw [show (k + 1) * 2 = k * 2 + 1 + 1 by omega]; simpa using ih (k := k)
theorem cur_take {L : List Cur} {k : Nat} : (L.flatMap encC).take (k * 2) = (L.take k).flatMap encC := by
  induction L generalizing k with
  | nil => simp
  | cons z r ih =>
    cases k with
    | zero => simp
    | succ k => rw [show (k + 1) * 2 = k * 2 + 1 + 1 by omega]; simpa using ih (k := k)
/-- A slice of cursors. -/
def SlC (w : World) (v : Value) (L : List Cur) : Prop := Sl w 2 v L.length (L.flatMap encC)
theorem SlC.take {w : World} {ao : Option Addr} {N cap : Nat} {L : List Cur} (h : SlC w (.slice ao N cap) L) (hN : L.length = N) (hi : Nat) (h2 : hi ≤ N) : SlC w (.slice ao hi cap) (L.take hi) := by
  subst hN
  have := Sl.part h 0 hi (Nat.zero_le _) h2 ao (by split <;> cases ao <;> simp [Addr.add])
  unfold SlC
  rw [List.length_take, Nat.min_eq_left h2, ← cur_take]
  simpa using this
theorem SlC.drop {w : World} {ao : Option Addr} {N cap : Nat} {L : List Cur} (h : SlC w (.slice ao N cap) L) (hN : L.length = N) (lo : Nat) (h1 : lo ≤ N) (ao' : Option Addr) (hao : ao' = if cap = lo then ao else ao.map (·.add (lo * 2))) (k c : Nat) (hk : k = N - lo) (hc : c = cap - lo) :
    SlC w (.slice ao' k c) (L.drop lo) := by
  subst hN hk hc
  have := Sl.part h lo L.length h1 (Nat.le_refl _) ao' hao
  unfold SlC
  rw [List.length_drop, ← cur_drop]
  rwa [List.take_of_length_le] at this
  have := h.1
  rw [List.length_drop, this]; omega
theorem cur_at {w : World} {g e : Nat} {x : Nm} (h : w.heap[g]? = some (.cells #[vN x, .int .u64 0] e (0, 0))) : Sl w 2 (.slice (some ⟨g, 0, none⟩) 1 1) 1 (encC (x, 0)) := by
  refine ⟨rfl, some ⟨g, 0, none⟩, 1, rfl, Nat.le_refl _, by simp [maxLen], (fun h => by cases h), fun a ha j u hu => ?_⟩
  cases ha
  have e1 : (⟨g, 0, none⟩ : Addr).add j = ⟨g, j, none⟩ := by unfold Addr.add; split <;> simp_all
  rw [e1, cell_of_row _ _ _ _ _ _ h]
  have hu2 : ([vN x, .int .u64 0] : List Value)[j]? = some u := hu
  simpa using hu2
/-- What lives where a consumer is put between others. -/
def NxQ (W : World) (x : Nm) (A C : List Cur) (d : Nat) (v : Value) (w : World) : Prop := match d with
  | 68 => ∃ g, v = .slice (some ⟨g, 0, none⟩) 0 0 ∧ w.heap[g]? = some (.cells #[] 52 (0, 0)) ∧ W.heap.size ≤ g
  | 75 => w.ownsRow W.heap.size 52 2 v A.length (A.flatMap encC)
  | 78 => ∃ g, v = .slice (some ⟨g, 0, none⟩) 1 1 ∧ w.heap[g]? = some (.cells #[vN x, .int .u64 0] 52 (0, 0))
  | 79 => w.ownsRow W.heap.size 52 2 v (A.length + 1) (A.flatMap encC ++ encC (x, 0))
  | 86 => w.ownsRow W.heap.size 52 2 v (A ++ (x, 0) :: C).length ((A ++ (x, 0) :: C).flatMap encC)
  | _ => True
theorem NxQ.st {W : World} {x : Nm} {A C : List Cur} (d : Nat) (v : Value) (w w' : World) (h : NxQ W x A C d v w) (k : Ext w w') : NxQ W x A C d v w' := by
  unfold NxQ at *
  split at h
  · obtain ⟨g, e, hg, hl⟩ := h; exact ⟨g, e, k.obj hg, hl⟩
  · exact k.owns h
  · obtain ⟨g, e, hg⟩ := h; exact ⟨g, e, k.obj hg⟩
  · exact k.owns h
  · exact k.owns h
  · trivial
theorem row_open {w : World} {B e size n : Nat} {v : Value} {xs : List Value} (h : w.ownsRow B e size v n xs) (hn : 0 < n) : ∃ g cap, v = .slice (some ⟨g, 0, none⟩) n cap ∧ n ≤ cap ∧ cap ≤ 9223372036854775807 ∧ B ≤ g := by
  rcases h.2 with ⟨hv, h0⟩ | ⟨g, c, cur, hv, hb, hgg, h1, h2, -⟩
  · omega
  · exact ⟨g, c, hv, h1, by simpa [maxLen] using h2, hb⟩
section
variable {B B' : Nat} {w w' : World} {q : Nat} {vr vs : Value} {s : PD}
theorem RDD.frU (h : RDD B w q vr vs s) {u : Value} {n : Nat} {xs : List Value} (ho : w.ownsRow B' 29 1 u n xs) (f : Fr (oB u) w w') : RDD B w' q vr vs s := by
  have k := row_kind ho
  refine ⟨fr_at f h.hd (fun hm => ?_), ownsRow_fr h.rr f (fun b hb hm => ?_), ownsRow_fr h.ss f (fun b hb hm => ?_), h.lo⟩
  · obtain ⟨cs, e⟩ := k _ hm; rw [h.hd] at e; cases e
  · obtain ⟨c1, e1⟩ := row_kind h.rr b hb; obtain ⟨c2, e2⟩ := k b hm; rw [e1] at e2; cases e2
  · obtain ⟨c1, e1⟩ := row_kind h.ss b hb; obtain ⟨c2, e2⟩ := k b hm; rw [e1] at e2; cases e2
theorem RDD.noU (h : RDD B w q vr vs s) {u : Value} {n : Nat} {xs : List Value} (ho : w.ownsRow B' 29 1 u n xs) : ∀ b ∈ oB u, b ∉ oB vs := fun b hb hm => by
  obtain ⟨c1, e1⟩ := row_kind h.ss b hm; obtain ⟨c2, e2⟩ := row_kind ho b hb; rw [e1] at e2; cases e2
variable {g N cap : Nat} {A C : List Cur} {x : Nm} {p : UInt64}
theorem RDD.store (h : RDD B w q vr (.slice (some ⟨g, 0, none⟩) N cap) { s with seen := A ++ (x, p) :: C }) (p' : UInt64) :
    RDD B (w.setCell ⟨g, A.length * 2 + 1, none⟩ (vU p')) q vr (.slice (some ⟨g, 0, none⟩) N cap) { s with seen := A ++ (x, p') :: C } ∧ Fr [g] w (w.setCell ⟨g, A.length * 2 + 1, none⟩ (vU p')) := by
  have hf : Fr [g] w (w.setCell ⟨g, A.length * 2 + 1, none⟩ (vU p')) := fr_setCell _ _ _ (by simp)
  have hgo : g ∈ oB (.slice (some ⟨g, 0, none⟩) N cap) := by simp [oB, Value.ownBlock]
  have hn := h.sepS g hgo
  refine ⟨⟨fr_at hf h.hd (fun hm => hn (by simp at hm; simp [hm])), ownsRow_fr h.rr hf (fun b hb hm => hn (by simp at hm; subst hm; simp [hb])), ?_, h.lo⟩, hf⟩
  have hss := h.ss
  obtain rfl : N = (A ++ (x, p) :: C).length := by
    obtain ⟨ao, c, e⟩ := row_shape hss
    cases e; rfl
  have := (World.ownsRow.stored hss (A.length * 2 + 1) (vU p')).1
  dsimp only at this
  rw [fset] at this
  have e : (A ++ (x, p') :: C).length = (A ++ (x, p) :: C).length := by simp
  show World.ownsRow _ B _ 2 _ (A ++ (x, p') :: C).length _
  rw [e]
  exact this
theorem RDD.pl (h : RDD B w q vr (.slice (some ⟨g, 0, none⟩) N cap) { s with seen := A ++ (x, p) :: C }) : w.cell? ⟨g, A.length * 2 + 1, none⟩ = some (vU p) ∧ w.frozen? ⟨g, A.length * 2 + 1, none⟩ = false := by
  have hss := h.ss
  obtain rfl : N = (A ++ (x, p) :: C).length := by
    obtain ⟨ao, c, e⟩ := row_shape hss
    cases e; rfl
  constructor
  · rw [World.ownsRow.cellAt hss _ (by simp; omega)]
    dsimp only
    rw [fcat, List.getElem?_append_right (by rw [flen]; omega), flen]
    have e : A.length * 2 + 1 - A.length * 2 = 1 := by omega
    rw [e]
    rfl
  · exact World.ownsRow.frozenAt hss _
end
theorem RDD.rowAt {B : Nat} {w : World} {q NR rc : Nat} {b : Addr} {vs : Value} {s : PD} (h : RDD B w q (.slice (some b) NR rc) vs s) {j : Nat} {y : UInt64 × UInt64} (hy : ∃ h : j < s.rows.length, s.rows[j] = y) (hN : s.rows.length = NR) :
    w.cell? ⟨(b.add (j * 2)).block, (b.add (j * 2)).off + 1, none⟩ = some (vU y.2) := by
  obtain ⟨hj, rfl⟩ := hy
  have hsl := Sl.of_owns h.rr
  rw [hN] at hsl
  obtain ⟨-, -, -, hc⟩ := Sl.cells hsl
  obtain ⟨-, g1⟩ := flat2_get (A := fun z : UInt64 × UInt64 => vU z.1) (Bf := fun z => vU z.2) s.rows j hj
  exact cell_next (i := j * 2) (j := 1) (hc b rfl _ _ g1) (by decide)
theorem fr_add {S T : List Nat} {a b c : World} (h : Fr S a b) (k : Fr T b c) (hT : ∀ x ∈ T, x ∈ S ∨ a.heap.size ≤ x) : Fr S a c :=
  ((h.mono (T := S ++ T) (by intro x hx; simp [hx])).trans (k.mono (by intro x hx; simp [hx]))).wider (fun x hx => by
    rcases List.mem_append.1 hx with e | e
    · exact .inl e
    · exact hT x e)
theorem held {p : Prop} (h : p ∨ False) : p := h.elim id False.elim
theorem nextD_err {s : PD} {name x : Nm} {n : Int} (hx : foldL name = x) (h : n < 1 ∨ rightL x = false) : nextD s name n = ([], 1, s) := by
  unfold nextD
  rw [hx, if_pos]
  rcases h with h | h
  · simp [h]
  · simp [h]
theorem nextD_full {s : PD} {name x : Nm} {n : Int} (hx : foldL name = x) (h1 : ¬ n < 1) (h2 : rightL x = true) (h3 : s.seen.lookup x = none) (h8 : 8 ≤ s.seen.length) : nextD s name n = ([], 4, s) := by
  unfold nextD
  rw [hx, if_neg (by simp [h1, h2]), if_pos (by simp [h3, h8])]
theorem nextD_ok {s : PD} {name x : Nm} {n : Int} {A C : List Cur} {p0 : UInt64} (hx : foldL name = x) (h1 : ¬ n < 1) (h2 : rightL x = true) (h3 : ((s.seen.lookup x).isNone && decide (8 ≤ s.seen.length)) = false) (hp : (s.seen.lookup x).getD 0 = p0) (hi : ∀ p, insN s.seen (x, p) = A ++ (x, p) :: C) :
    nextD s name n = ((tk s.rows p0 n s.rows.length).map Prod.fst, 0, { s with seen := A ++ (x, lastP p0 (tk s.rows p0 n s.rows.length)) :: C }) := by
  unfold nextD
  rw [hx, if_neg (by simp [h1, h2]), if_neg (by rw [h3]; decide)]
  subst hp
  rw [tk_all, hi]
def NxtR (B : Nat) (w : World) (q : Nat) (S : List Nat) (r : List UInt64 × Int × PD) (e : Ending) (w' : World) : Prop :=
  (∃ v, e = .returned (.tuple #[v, .int .i64 r.2.1]) ∧ w'.ownsRow w.heap.size 29 1 v r.1.length (r.1.map vU)) ∧ (∃ vr' vs', RDD B w' q vr' vs' r.2.2) ∧ Fr S w w'
set_option maxRecDepth 100000 in
set_option maxHeartbeats 2000000 in
theorem rnext_any {B : Nat} {w : World} {q : Nat} {vr vs : Value} {s : PD} (name : Nm) (n : Int) (hn1 : -9223372036854775808 ≤ n) (hn2 : n ≤ 9223372036854775807) (h : RDD B w q vr vs s) (hw : WD s) (hl : name.length ≤ 100000) (hlr : s.rows.length ≤ 100000) (hB : B ≤ w.heap.size) :
    Calls Tryd.prog 13 #[pv q, vN name, .int .i64 n] w fun e w' => NxtR B w q (q :: oB vs) (nextD s name n) e w' := by
  have H := hid h
  have HW := hid hw
  have HB := hid hB
  have HLR := hid hlr
  obtain ⟨S0, hS0⟩ : ∃ S, q :: oB vs = S := ⟨_, rfl⟩
  have HS0 := hid hS0
  rw [hS0]
  obtain ⟨x, hx⟩ : ∃ x, foldL name = x := ⟨_, rfl⟩
  have HX := hid hx
  have HXL : Hid (x.length ≤ 1048576) := hid (by have := fold_lenD name; rw [hx] at this; omega)
  have HNL : Hid (name.length ≤ 1048576) := hid (by omega)
  obtain ⟨R, hR⟩ : ∃ R, nextD s name n = R := ⟨_, rfl⟩
  have HRR := hid hR
  rw [hR]
  obtain ⟨ro, rc, hvr⟩ := row_shape h.rr
  obtain ⟨NR, hNR⟩ : ∃ k, s.rows.length = k := ⟨_, rfl⟩
  rw [hNR] at hvr
  subst hvr
  have HNR := hid hNR
  obtain ⟨so, cap, hvs⟩ := row_shape h.ss
  obtain ⟨N, hN⟩ : ∃ k, s.seen.length = k := ⟨_, rfl⟩
  rw [hN] at hvs
  subst hvs
  have HN := hid hN
  have HSN : Hid (∀ z ∈ s.seen, z.1.length ≤ 1048576) := hid (fun z hz => by have := right_len (hw.sr z hz).1; omega)
  clear h hw hl hlr hB hS0 hR hNR hN
  go_enter Tryd.func13, Tryd.ntmps13
  go_wp2_with fail
  have hc := rfold3_any name w HNL.out
  rw [hx] at hc
  clear hx
  refine hc.mono ?_
  clear hc
  rintro e w1 ⟨rfl, hx1⟩
  have HE1 := hid hx1
  clear hx1
  by_cases hn : n < 1
  · have hnb : decide (n < 1) = true := by simpa using hn
    have HRE : Hid (R = ([], 1, s)) := hid (by rw [← HRR.out]; exact nextD_err HX.out (.inl hn))
    clear hn
    go_wp2
    go_returns
    unfold NxtR
    rw [HRE.out]
    exact ⟨⟨_, rfl, World.ownsRow_nil _ _ _ _⟩, ⟨_, _, H.out.ext HE1.out⟩, Ext.fr HE1.out⟩
  have hnb : decide (n < 1) = false := by simpa using hn
  have HNB := hid hn
  clear hn
  go_wp2_with fail
  clear hnb
  obtain ⟨rb, hrb⟩ : ∃ b, rightL x = b := ⟨_, rfl⟩
  have HRB := hid hrb
  have hc := rright3_any x w1 HXL.out
  rw [hrb] at hc
  clear hrb
  refine hc.mono ?_
  clear hc
  rintro e w2 ⟨rfl, hx2⟩
  have HE2 := hid (HE1.out.trans hx2)
  clear hx2
  cases rb
  case false =>
    have HRE : Hid (R = ([], 1, s)) := hid (by rw [← HRR.out]; exact nextD_err HX.out (.inr HRB.out))
    go_wp2
    go_returns
    unfold NxtR
    rw [HRE.out]
    exact ⟨⟨_, rfl, World.ownsRow_nil _ _ _ _⟩, ⟨_, _, H.out.ext HE2.out⟩, Ext.fr HE2.out⟩
  have h2 := hid (H.out.ext HE2.out)
  obtain ⟨hle, hm, hz, hc⟩ := Sl.cells (by have := Sl.of_owns h2.out.ss; rw [HN.out] at this; exact this)
  have hmm : cap ≤ 9223372036854775807 := by simpa [maxLen] using hm
  have HC := hid hc
  have HZ := hid hz
  clear hc hm hz
  go_wp2
  go_loopw [8] (fun i wr => ∃ k : Nat, k ≤ N ∧ i = .int .i64 (k : Int) ∧ Hid (∀ j (hj : j < s.seen.length), j < k → ltC s.seen[j] (x, 0) = true) ∧ Hid (Ext w2 wr)) (fun i _ => N - (intOf i).toNat)
  case atStart => exact ⟨0, by omega, rfl, hid (fun j _ h => absurd h (by omega)), hid (Ext.refl _)⟩
  case round =>
    obtain ⟨k, hk, rfl, HL, HE⟩ := hrel
    have HK := hid hk
    have H3 := hid (h2.out.ext HE.out)
    by_cases hlt : k < N
    · obtain ⟨a, rfl⟩ : ∃ a, so = some a := by
        cases so with
        | none => have := HZ.out rfl; omega
        | some a => exact ⟨a, rfl⟩
      have hks : k < s.seen.length := by rw [HN.out]; exact hlt
      obtain ⟨g0, g1⟩ := flat2_get (A := fun z : Cur => vN z.1) (Bf := fun z => vU z.2) s.seen k hks
      have r0 := cell_first (i := k * 2) (HE.out.cell (HC.out a rfl _ _ g0))
      have hzm : s.seen[k] ∈ s.seen := List.getElem_mem hks
      obtain ⟨z, hz3⟩ : ∃ z, s.seen[k] = z := ⟨_, rfl⟩
      have HZ3 : Hid (∃ hk : k < s.seen.length, s.seen[k] = z) := hid ⟨hks, hz3⟩
      rw [hz3] at r0 hzm
      have HZL := hid (HSN.out z hzm)
      obtain ⟨z1, z2⟩ := z
      obtain ⟨cc0, -, cc2, -⟩ := lk3 H3.out.hd
      clear g0 g1 hz3 hzm hks cc0
      have hi1 : decide ((k : Int) < (N : Int)) = true := by simp; omega
      go_wp2_with fail
      obtain ⟨lb, hlb⟩ : ∃ b, lessR (runes z1) (runes x) = b := ⟨_, rfl⟩
      have HLB := hid hlb
      have hc := rless3_any z1 x wr HZL.out HXL.out
      rw [hlb] at hc
      clear hlb
      refine hc.mono ?_
      clear hc
      rintro e w3 ⟨rfl, hx3⟩
      have HE3 := hid (HE.out.trans hx3)
      replace r0 := hx3.cell r0
      clear cc2
      obtain ⟨-, -, cc2, -⟩ := lk3 (H3.out.ext hx3).hd
      clear hx3
      cases lb
      case true =>
        have HS : Hid (∀ j (hj : j < s.seen.length), j < k + 1 → ltC s.seen[j] (x, 0) = true) := hid (fun j hj h => by
          by_cases hjk : j < k
          · exact HL.out j hj hjk
          · obtain rfl : j = k := by omega
            obtain ⟨hk2, e⟩ := HZ3.out
            rw [e]; exact HLB.out)
        go_wp2
        go_roundw
        case rel => exact ⟨k + 1, by omega, by go_num, HS, HE3⟩
        case measure => simp [intOf]; omega
      have HNA := hid (next_at HW.out HRB.out (by rw [HN.out]; exact HK.out) HL.out (fun hj => by obtain ⟨hk2, e⟩ := HZ3.out; rw [e]; exact HLB.out))
      have hke : ((k : Int) == (N : Int)) = false := by simp; omega
      have H4 := hid (H.out.ext (HE2.out.trans HE3.out))
      have HF4 : Hid (Fr S0 w w3) := hid (Ext.fr (HE2.out.trans HE3.out))
      by_cases he : z1 = x
      · have hes : (z1 == x) = true := by simp [he]
        have hnb : s.seen.lookup x = some z2 ∧ ∀ p, insN s.seen (x, p) = s.seen.take k ++ (x, p) :: s.seen.drop (k + 1) := by
          obtain ⟨hk2, e⟩ := HZ3.out
          have := HNA.out.2 hk2 (by rw [e]; exact he)
          rw [e] at this
          exact this
        have HNB2 := hid hnb
        have hsp : s.seen = s.seen.take k ++ (x, z2) :: s.seen.drop (k + 1) := by
          obtain ⟨hk2, e⟩ := HZ3.out
          rw [← he, ← e, ← List.drop_eq_getElem_cons hk2, List.take_append_drop]
        obtain ⟨g5, hg5⟩ : ∃ g, a = ⟨g, 0, none⟩ := by
          obtain ⟨g, c, e, -⟩ := row_open H4.out.ss (by rw [HN.out]; omega)
          cases e; exact ⟨g, rfl⟩
        have HAG := hid hg5
        have HKA0 : Hid ((s.seen.take k).length = k) := hid (by rw [List.length_take, HN.out]; omega)
        have HR5 : Hid (RDD B w3 q (.slice ro NR rc) (.slice (some a) N cap) { s with seen := s.seen.take k ++ (x, z2) :: s.seen.drop (k + 1) }) := hid (by rw [← hsp]; exact H4.out)
        have HG5 : Hid (g5 ∈ S0 ∨ w.heap.size ≤ g5) := hid (.inl (by rw [← HS0.out, hg5]; simp [oB, Value.ownBlock]))
        have HRS : Hid (R = ((tk s.rows z2 n s.rows.length).map Prod.fst, 0, { s with seen := s.seen.take k ++ (x, lastP z2 (tk s.rows z2 n s.rows.length)) :: s.seen.drop (k + 1) })) := hid (by
          rw [← HRR.out]
          exact nextD_ok HX.out (by have := HNB.out; omega) HRB.out (by rw [HNB2.out.1]; rfl) (by rw [HNB2.out.1]; rfl) HNB2.out.2)
        have hk5 : (k : Int) < N := by omega
        have hc5 := hle
        have hc6 := hmm
        clear he hnb hsp hg5
        have HF5 := HF4
        have HC0 : Hid (∀ o, (w3.alloc o).cell? ⟨q, 2, none⟩ = some (.slice (some a) N cap)) := hid (fun o => (Ext.alloc _ o).cell (lk3 HR5.out.hd).2.2.1)
        have HC1 : Hid (∀ o, (w3.alloc o).cell? ⟨(a.add (k * 2)).block, (a.add (k * 2)).off + 1, none⟩ = some (vU z2)) := hid (fun o => (Ext.alloc _ o).cell (by
          have := HR5.out
          rw [HAG.out] at this ⊢
          have h9 := this.pl.1
          rw [HKA0.out] at h9
          rw [addr0]; exact h9))
        have hc0 := HC0.out
        have hc1 := HC1.out
        have HO6 : Hid ((w3.alloc (.cells #[] 29)).ownsRow w.heap.size 29 1 (.slice (some ⟨w3.heap.size, 0, none⟩) 0 0) 0 []) := hid (owns_mono (World.ownsRow_lit (base := w3.heap.size) (e := 29) (size := 1) w3 #[] 0 (Nat.le_refl _) (by simp [maxLen]) (by simp)) HF5.out.size)
        have HR6 := hid (HR5.out.ext (Ext.alloc w3 (.cells #[] 29)))
        have HF6 := hid (HF5.out.trans (Ext.fr (S := S0) (Ext.alloc w3 (.cells #[] 29))))
        clear HC0 HC1 HF5
        go_wp2
        clear hc0 hc1 HR5
        go_loopw [9, 11] (fun ov iv wr => ∃ (j m : Nat) (oo : Option Addr) (oc : Nat), j ≤ NR ∧ iv = .int .i64 (j : Int) ∧ ov = .slice oo m oc ∧ Hid (m = ((tk s.rows z2 n j).map Prod.fst).length) ∧ Hid (wr.ownsRow w.heap.size 29 1 (.slice oo m oc) ((tk s.rows z2 n j).map Prod.fst).length (((tk s.rows z2 n j).map Prod.fst).map uv)) ∧ Hid (RDD B wr q (.slice ro NR rc) (.slice (some a) N cap) { s with seen := s.seen.take k ++ (x, lastP z2 (tk s.rows z2 n j)) :: s.seen.drop (k + 1) }) ∧ Hid (Fr S0 w wr)) (fun _ iv _ => NR - (intOf iv).toNat)
        case atStart => exact ⟨0, 0, _, _, by omega, rfl, rfl, hid (by rw [tk_zero]; rfl), hid (by rw [tk_zero]; exact HO6.out), hid (by rw [tk_zero, lastP_nil]; exact HR6.out), HF6⟩
        case round =>
          clear HO6 HR6 HF6
          obtain ⟨j, m, oo, oc, hj, rfl, rfl, HM, HO, HD, HF⟩ := hrel
          obtain ⟨d0, -, d2, -⟩ := lk3 HD.out.hd
          by_cases hjl : j < NR
          · have hji : decide ((j : Int) < (NR : Int)) = true := by simp; omega
            have hjr : j < s.rows.length := by rw [HNR.out]; exact hjl
            have hsl := Sl.of_owns HD.out.rr
            dsimp only at hsl
            rw [HNR.out] at hsl
            obtain ⟨hle2, hm2, hz2, hc2⟩ := Sl.cells hsl
            have hmm2 : rc ≤ 9223372036854775807 := by simpa [maxLen] using hm2
            obtain ⟨rb, rfl⟩ : ∃ a, ro = some a := by
              cases ro with
              | none => have := hz2 rfl; omega
              | some a => exact ⟨a, rfl⟩
            obtain ⟨g0, g1⟩ := flat2_get (A := fun z : UInt64 × UInt64 => vU z.1) (Bf := fun z => vU z.2) s.rows j hjr
            have t0 := cell_first (i := j * 2) (hc2 rb rfl _ _ g0)
            have t1 := cell_next (i := j * 2) (j := 1) (hc2 rb rfl _ _ g1) (by decide)
            obtain ⟨y, hy⟩ : ∃ y, s.rows[j] = y := ⟨_, rfl⟩
            have HY : Hid (∃ h : j < s.rows.length, s.rows[j] = y) := hid ⟨hjr, hy⟩
            rw [hy] at t0 t1
            obtain ⟨y1, y2⟩ := y
            clear g0 g1 hy hsl hm2 hz2 hc2 hjr
            by_cases hp : z2 < y2
            · have hpb : decide (z2.toNat < y2.toNat) = true := by rw [UInt64.lt_iff_toNat_lt] at hp; simpa using hp
              have HP := hid hp
              clear hp
              by_cases hmn : (m : Int) < n
              · have hmb : decide ((m : Int) < n) = true := by simpa using hmn
                have HTK : Hid (tk s.rows z2 n (j + 1) = tk s.rows z2 n j ++ [(y1, y2)]) := hid (by
                  obtain ⟨hj2, e⟩ := HY.out
                  have h1 := tk_more hj2 (pl := z2) (n := n) (by rw [e]; exact HP.out) (by have := HM.out; rw [List.length_map] at this; rw [← this]; exact hmn)
                  rw [e] at h1; exact h1)
                have HML : Hid (m ≤ 100000) := hid (by have := tk_len s.rows z2 n j; have := HM.out; rw [List.length_map] at this; have := HLR.out; have := HNR.out; omega)
                have hml := HML.out
                clear hmn
                go_wp2_with (at_builtin; refine wpList_append_ids_at rfl (.tmp 123) (.tmp 132) 35 rfl w.heap.size 29 Tryd.underlying35 infoU64 rfl ((Ext.alloc wr _).owns HO.out) rfl (Vec.one _ _ _ y1 rfl) (m + 1) (by have := HM.out; simp at this ⊢; omega) (by have := HML.out; omega) (Nat.le_trans HF.out.size (by simp)) ?_; intro ao2 cap2 w14 hO hg hat; have HO4 := hid hO; have HD4 := hid ((HD.out.ext (Ext.alloc wr _)).frU ((Ext.alloc wr _).owns HO.out) hg); have HF4b : Hid (Fr S0 w w14) := hid (fr_add (HF.out.trans (Ext.fr (Ext.alloc wr _))) hg (fun b hb => Or.inr (row_lo HO.out b hb))); clear hO hg hat)
                clear t0 t1 d0 d2 hpb hmb hml
                have HT1 : Hid (w14.cell? ⟨(rb.add (j * 2)).block, (rb.add (j * 2)).off + 1, none⟩ = some (vU y2)) := hid (HD4.out.rowAt HY.out HNR.out)
                refine ParE.wp_region_e (l := [_, _, _, _, _, _, _, _, _, _, _, _, _, _, _, _]) rfl (Rg.Ch [15] [] (OneQ w14 fun w' => RDD B w' q (.slice (some rb) NR rc) (.slice (some a) N cap) { s with seen := s.seen.take k ++ List.cons (x, y2) (s.seen.drop (k + 1)) } ∧ Fr [g5] w14 w')) (ParC.VC [ParC.EQ (pv q), ParC.EQ (pv q), ParC.EQ (Value.pointer (some ⟨q, 2, none⟩)), ParC.EQ (Value.slice (some a) N cap), ParC.EQ (Value.int IntKind.i64 (k : Int)), ParC.EQ (pv q), ParC.EQ (pv q), ParC.EQ (Value.pointer (some ⟨q, 0, none⟩)), ParC.EQ (Value.slice (some rb) NR rc), ParC.EQ (Value.int IntKind.i64 (j : Int)), ParC.EQ (Value.pointer (some (rb.add (j * 2)))), ParC.EQ (Value.pointer (some ⟨(rb.add (j * 2)).block, (rb.add (j * 2)).off + 1, none⟩)), ParC.EQ (vU y2), ParC.EQ (Value.pointer (some (a.add (k * 2)))), ParC.EQ (Value.pointer (some ⟨(a.add (k * 2)).block, (a.add (k * 2)).off + 1, none⟩)), fun _ => True]) (by kernel_rfl) (by kernel_rfl) (Rg.Ch.start ⟨fun _ => Ext.draw _, trivial⟩) ?_ ?_
                · refine ⟨fun L ρ w' hR hC hL hd hk => ?_, ?_⟩
                  · exact Par.val_of_run rfl ⟨hR.other (by decide), hk.1⟩
                  refine ⟨fun L ρ w' hR hC hL hd hk => ?_, ?_⟩
                  · obtain ⟨k0, -⟩ := hk
                    have e0 : ρ (.tmp 134) = pv q := k0
                    clear k0
                    refine Par.val_k fun K hK => ?_
                    unfold Par.val
                    (go_simp; exact hK _ _ ⟨hR.other (by decide), rfl⟩)
                  refine ⟨fun L ρ w' hR hC hL hd hk => ?_, ?_⟩
                  · obtain ⟨k0, -⟩ := hk
                    have e0 : ρ (.tmp 135) = pv q := k0
                    clear k0
                    refine Par.val_k fun K hK => ?_
                    unfold Par.val
                    (go_simp; exact hK _ _ ⟨hR.other (by decide), rfl⟩)
                  refine ⟨fun L ρ w' hR hC hL hd hk => ?_, ?_⟩
                  · obtain ⟨k0, -⟩ := hk
                    have e0 : ρ (.tmp 136) = Value.pointer (some ⟨q, 2, none⟩) := k0
                    clear k0
                    refine Par.val_k fun K hK => ?_
                    unfold Par.val
                    (obtain ⟨i, hi, hq⟩ := hR.some 0 rfl (hC.notyet 15 3 hL (by kernel_rfl)); have cc := (lk3 (HD4.out.ext (hq.1 (by omega))).hd).2.2.1; go_simp; exact hK _ _ ⟨hR.other (by decide), rfl⟩)
                  refine ⟨fun L ρ w' hR hC hL hd hk => ?_, ?_⟩
                  · exact Par.val_of_run rfl ⟨hR.other (by decide), hk.1⟩
                  refine ⟨fun L ρ w' hR hC hL hd hk => ?_, ?_⟩
                  · exact Par.val_of_run rfl ⟨hR.other (by decide), hk.1⟩
                  refine ⟨fun L ρ w' hR hC hL hd hk => ?_, ?_⟩
                  · obtain ⟨k0, -⟩ := hk
                    have e0 : ρ (.tmp 139) = pv q := k0
                    clear k0
                    refine Par.val_k fun K hK => ?_
                    unfold Par.val
                    (go_simp; exact hK _ _ ⟨hR.other (by decide), rfl⟩)
                  refine ⟨fun L ρ w' hR hC hL hd hk => ?_, ?_⟩
                  · obtain ⟨k0, -⟩ := hk
                    have e0 : ρ (.tmp 140) = pv q := k0
                    clear k0
                    refine Par.val_k fun K hK => ?_
                    unfold Par.val
                    (go_simp; exact hK _ _ ⟨hR.other (by decide), rfl⟩)
                  refine ⟨fun L ρ w' hR hC hL hd hk => ?_, ?_⟩
                  · obtain ⟨k0, -⟩ := hk
                    have e0 : ρ (.tmp 141) = Value.pointer (some ⟨q, 0, none⟩) := k0
                    clear k0
                    refine Par.val_k fun K hK => ?_
                    unfold Par.val
                    (obtain ⟨i, hi, hq⟩ := hR.some 0 rfl (hC.notyet 15 8 hL (by kernel_rfl)); have cc := (lk3 (HD4.out.ext (hq.1 (by omega))).hd).1; go_simp; exact hK _ _ ⟨hR.other (by decide), rfl⟩)
                  refine ⟨fun L ρ w' hR hC hL hd hk => ?_, ?_⟩
                  · exact Par.val_of_run rfl ⟨hR.other (by decide), hk.1⟩
                  refine ⟨fun L ρ w' hR hC hL hd hk => ?_, ?_⟩
                  · obtain ⟨k0, k1, -⟩ := hk
                    have e0 : ρ (.tmp 142) = Value.slice (some rb) NR rc := k0
                    have e1 : ρ (.tmp 143) = Value.int IntKind.i64 (j : Int) := k1
                    clear k0 k1
                    refine Par.val_k fun K hK => ?_
                    unfold Par.val
                    (go_simp; exact hK _ _ ⟨hR.other (by decide), rfl⟩)
                  refine ⟨fun L ρ w' hR hC hL hd hk => ?_, ?_⟩
                  · obtain ⟨k0, -⟩ := hk
                    have e0 : ρ (.tmp 144) = Value.pointer (some (rb.add (j * 2))) := k0
                    clear k0
                    refine Par.val_k fun K hK => ?_
                    unfold Par.val
                    (go_simp; exact hK _ _ ⟨hR.other (by decide), rfl⟩)
                  refine ⟨fun L ρ w' hR hC hL hd hk => ?_, ?_⟩
                  · obtain ⟨k0, -⟩ := hk
                    have e0 : ρ (.tmp 145) = Value.pointer (some ⟨(rb.add (j * 2)).block, (rb.add (j * 2)).off + 1, none⟩) := k0
                    clear k0
                    refine Par.val_k fun K hK => ?_
                    unfold Par.val
                    (obtain ⟨i, hi, hq⟩ := hR.some 0 rfl (hC.notyet 15 12 hL (by kernel_rfl)); have cc := (hq.1 (by omega)).cell HT1.out; go_simp; exact hK _ _ ⟨hR.other (by decide), rfl⟩)
                  refine ⟨fun L ρ w' hR hC hL hd hk => ?_, ?_⟩
                  · obtain ⟨k0, k1, -⟩ := hk
                    have e0 : ρ (.tmp 137) = Value.slice (some a) N cap := k0
                    have e1 : ρ (.tmp 138) = Value.int IntKind.i64 (k : Int) := k1
                    clear k0 k1
                    refine Par.val_k fun K hK => ?_
                    unfold Par.val
                    (go_simp; exact hK _ _ ⟨hR.other (by decide), rfl⟩)
                  refine ⟨fun L ρ w' hR hC hL hd hk => ?_, ?_⟩
                  · obtain ⟨k0, -⟩ := hk
                    have e0 : ρ (.tmp 147) = Value.pointer (some (a.add (k * 2))) := k0
                    clear k0
                    refine Par.val_k fun K hK => ?_
                    unfold Par.val
                    (go_simp; exact hK _ _ ⟨hR.other (by decide), rfl⟩)
                  refine ⟨fun L ρ w' hR hC hL hd hk => ?_, ?_⟩
                  · obtain ⟨k0, k1, -⟩ := hk
                    have e0 : ρ (.tmp 148) = Value.pointer (some ⟨(a.add (k * 2)).block, (a.add (k * 2)).off + 1, none⟩) := k0
                    have e1 : ρ (.tmp 146) = vU y2 := k1
                    clear k0 k1
                    refine Par.val_k fun K hK => ?_
                    unfold Par.val
                    (obtain ⟨hq, hs⟩ := hR.go 0 rfl hL (.inl rfl) (by decide); have hx := hq.1 (by decide); have hd9 := HD4.out.ext hx; rw [HAG.out] at hd9; have hpl := hd9.pl; have hst := hd9.store y2; rw [HKA0.out] at hpl hst; have hadr : Hid ((⟨(a.add (k * 2)).block, (a.add (k * 2)).off + 1, none⟩ : Addr) = ⟨g5, k * 2 + 1, none⟩) := hid (by rw [HAG.out, addr0]); obtain ⟨pl, hpl1⟩ : ∃ u, w'.cell? ⟨(a.add (k * 2)).block, (a.add (k * 2)).off + 1, none⟩ = some (vU u) := ⟨_, by rw [hadr.out]; exact hpl.1⟩; have ff : w'.frozen? ⟨(a.add (k * 2)).block, (a.add (k * 2)).off + 1, none⟩ = false := (by rw [hadr.out]; exact hpl.2); have hres := hid hst; clear hd9 hpl hst; go_simp; rw [hadr.out]; exact hK _ _ ⟨hs none _ _ ⟨fun h => absurd h (by decide), by have := hres.out; rw [HAG.out]; exact ⟨this.1, (Ext.fr hx).trans this.2⟩⟩, trivial⟩)
                  trivial
                intro a' w' inv hR
                have q134 : a'.tmps.getD 134 undef = pv q := inv.done 0 _ 134 rfl rfl rfl
                have q135 : a'.tmps.getD 135 undef = pv q := inv.done 1 _ 135 rfl rfl rfl
                have q136 : a'.tmps.getD 136 undef = Value.pointer (some ⟨q, 2, none⟩) := inv.done 2 _ 136 rfl rfl rfl
                have q137 : a'.tmps.getD 137 undef = Value.slice (some a) N cap := inv.done 3 _ 137 rfl rfl rfl
                have q138 : a'.tmps.getD 138 undef = Value.int IntKind.i64 (k : Int) := inv.done 4 _ 138 rfl rfl rfl
                have q139 : a'.tmps.getD 139 undef = pv q := inv.done 5 _ 139 rfl rfl rfl
                have q140 : a'.tmps.getD 140 undef = pv q := inv.done 6 _ 140 rfl rfl rfl
                have q141 : a'.tmps.getD 141 undef = Value.pointer (some ⟨q, 0, none⟩) := inv.done 7 _ 141 rfl rfl rfl
                have q142 : a'.tmps.getD 142 undef = Value.slice (some rb) NR rc := inv.done 8 _ 142 rfl rfl rfl
                have q143 : a'.tmps.getD 143 undef = Value.int IntKind.i64 (j : Int) := inv.done 9 _ 143 rfl rfl rfl
                have q144 : a'.tmps.getD 144 undef = Value.pointer (some (rb.add (j * 2))) := inv.done 10 _ 144 rfl rfl rfl
                have q145 : a'.tmps.getD 145 undef = Value.pointer (some ⟨(rb.add (j * 2)).block, (rb.add (j * 2)).off + 1, none⟩) := inv.done 11 _ 145 rfl rfl rfl
                have q146 : a'.tmps.getD 146 undef = vU y2 := inv.done 12 _ 146 rfl rfl rfl
                have q147 : a'.tmps.getD 147 undef = Value.pointer (some (a.add (k * 2))) := inv.done 13 _ 147 rfl rfl rfl
                have q148 : a'.tmps.getD 148 undef = Value.pointer (some ⟨(a.add (k * 2)).block, (a.add (k * 2)).off + 1, none⟩) := inv.done 14 _ 148 rfl rfl rfl
                clear inv
                simp only [List.filterMap_cons, List.filterMap_nil, Par.putAll, Act.put, List.setIfInBounds_toArray, List.set_cons_succ, List.set_cons_zero, q134, q135, q136, q137, q138, q139, q140, q141, q142, q143, q144, q145, q146, q147, q148]
                clear q134 q135 q136 q137 q138 q139 q140 q141 q142 q143 q144 q145 q146 q147 q148
                obtain ⟨-, hrd, hf⟩ := Rg.Ch.fin hR (by decide) 1 rfl; have HRD := hid hrd; have HF7 := hid hf; clear hrd hf hR
                try clear a'
                have HM5 : Hid (m + 1 = ((tk s.rows z2 n (j + 1)).map Prod.fst).length) := hid (by rw [HTK.out, List.map_append, List.length_append, ← HM.out]; rfl)
                have HO5 : Hid (w'.ownsRow w.heap.size 29 1 (.slice ao2 (m + 1) cap2) ((tk s.rows z2 n (j + 1)).map Prod.fst).length (((tk s.rows z2 n (j + 1)).map Prod.fst).map uv)) := hid (by
                  rw [← HM5.out, HTK.out, List.map_append]
                  exact ownsRow_fr HO4.out HF7.out (fun b hb hm => HD4.out.noU HO4.out b hb (by simp at hm; subst hm; rw [HAG.out]; simp [oB, Value.ownBlock])))
                have HD5 : Hid (RDD B w' q (.slice (some rb) NR rc) (.slice (some a) N cap) { s with seen := s.seen.take k ++ (x, lastP z2 (tk s.rows z2 n (j + 1))) :: s.seen.drop (k + 1) }) := hid (by rw [HTK.out, lastP_app]; exact HRD.out)
                have HF8 := hid (fr_add HF4b.out HF7.out (fun b hb => by simp at hb; subst hb; exact HG5.out))
                clear HRD HF7 HO4 HD4 HF4b
                go_wp2
                go_roundw
                case rel => exact ⟨j + 1, m + 1, ao2, cap2, by omega, by go_num, rfl, HM5, HO5, HD5, HF8⟩
                case measure =>
                  show NR - ((j : Int) + 1).toNat < NR - ((j : Int)).toNat
                  omega
              · have hmb : decide ((m : Int) < n) = false := by simpa using hmn
                have HTK : Hid (tk s.rows z2 n (j + 1) = tk s.rows z2 n j) := hid (by
                  obtain ⟨hj2, e⟩ := HY.out
                  exact tk_keep hj2 (fun h => hmn (by have := HM.out; rw [List.length_map] at this; rw [this]; exact h.2)))
                clear hmn
                go_wp2
                go_roundw
                case rel => exact ⟨j + 1, m, oo, oc, by omega, by go_num, rfl, hid (by rw [HTK.out]; exact HM.out), hid (by rw [HTK.out]; exact HO.out), hid (by rw [HTK.out]; exact HD.out), HF⟩
                case measure =>
                  show NR - ((j : Int) + 1).toNat < NR - ((j : Int)).toNat
                  omega
            · have hpb : decide (z2.toNat < y2.toNat) = false := by rw [UInt64.lt_iff_toNat_lt] at hp; simpa using hp
              have HTK : Hid (tk s.rows z2 n (j + 1) = tk s.rows z2 n j) := hid (by
                obtain ⟨hj2, e⟩ := HY.out
                exact tk_keep hj2 (fun h => hp (by have := h.1; rw [e] at this; exact this)))
              clear hp
              go_wp2
              go_roundw
              case rel => exact ⟨j + 1, m, oo, oc, by omega, by go_num, rfl, hid (by rw [HTK.out]; exact HM.out), hid (by rw [HTK.out]; exact HO.out), hid (by rw [HTK.out]; exact HD.out), HF⟩
              case measure =>
                show NR - ((j : Int) + 1).toNat < NR - ((j : Int)).toNat
                omega
          · obtain rfl : j = NR := by omega
            have hjf : decide ((j : Int) < (j : Int)) = false := by simp
            go_wp2
            go_returns
            have hrs := HRS.out
            rw [HNR.out] at hrs
            unfold NxtR
            rw [hrs]
            exact ⟨⟨_, rfl, HO.out⟩, ⟨_, _, HD.out⟩, HF.out⟩
      · have hes : (z1 == x) = false := by simpa using he
        have hnb := HNA.out.1 (fun hj => by obtain ⟨hk2, e⟩ := HZ3.out; rw [e]; exact he)
        have HNB2 := hid hnb
        clear he hnb
        by_cases h8 : 8 ≤ N
        · have h8' : decide ((8 : Int) ≤ (N : Int)) = true := by simp; omega
          have HRE : Hid (R = ([], 4, s)) := hid (by rw [← HRR.out]; exact nextD_full HX.out (by have := HNB.out; omega) HRB.out HNB2.out.1 (by rw [HN.out]; exact h8))
          clear h8
          go_wp2
          go_returns
          unfold NxtR
          rw [HRE.out]
          exact ⟨⟨_, rfl, World.ownsRow_nil _ _ _ _⟩, ⟨_, _, H4.out⟩, HF4.out⟩
        have h8' : decide ((8 : Int) ≤ (N : Int)) = false := by simp; omega
        have H8 := hid h8
        clear h8
        go_wp2_with fail
        have HRS0 : Hid (R = ((tk s.rows 0 n s.rows.length).map Prod.fst, 0, { s with seen := s.seen.take k ++ (x, lastP 0 (tk s.rows 0 n s.rows.length)) :: s.seen.drop k })) := hid (by
          rw [← HRR.out]
          exact nextD_ok HX.out (by have := HNB.out; omega) HRB.out (by rw [HN.out, decide_eq_false (by exact H8.out), Bool.and_false]) (by rw [HNB2.out.1]; rfl) HNB2.out.2)
        have HSA : Hid (SlC w3 (.slice (some a) k cap) (s.seen.take k)) := hid (SlC.take (by have := Sl.of_owns H4.out.ss; unfold SlC; rw [HN.out] at this ⊢; exact this) HN.out k HK.out)
        have HSC : Hid (∀ (ao' : Option Addr) (kk c : Nat), (ao' = if cap = k then (some a) else ((some a) : Option Addr).map (·.add (k * 2))) → kk = N - k → c = cap - k → SlC w3 (.slice ao' kk c) (s.seen.drop k)) := hid (fun ao' kk c e1 e2 e3 => SlC.drop (by have := Sl.of_owns H4.out.ss; unfold SlC; rw [HN.out] at this ⊢; exact this) HN.out k HK.out ao' e1 kk c e2 e3)
        have HKA0 : Hid ((s.seen.take k).length = k) := hid (by rw [List.length_take, HN.out]; have := HK.out; omega)
        have HCL0 : Hid ((s.seen.drop k).length ≤ 8) := hid (by rw [List.length_drop]; have := HW.out.s8; omega)
        obtain ⟨A, hA⟩ : ∃ A, s.seen.take k = A := ⟨_, rfl⟩
        obtain ⟨C, hC⟩ : ∃ C, s.seen.drop k = C := ⟨_, rfl⟩
        rw [hA] at HSA HKA0 HRS0
        rw [hC] at HSC HCL0 HRS0
        clear hA hC h8'
        have HC2 := hid cc2
        clear cc2
        refine ParE.wp_region_e (l := [_, _, _, _, _, _, _, _, _, _, _, _, _, _, _, _, _, _, _, _, _, _, _]) rfl (Rg.Mx w3 22 [(1, 68, 8), (8, 75, 12), (11, 78, 12), (12, 79, 19), (19, 86, 22)] (NxQ w3 x A C) (fun w' => ∃ vs', RDD B w' q (.slice ro NR rc) vs' { s with seen := A ++ List.cons (x, 0) C } ∧ Fr [q] w3 w' ∧ ∀ b ∈ oB vs', w3.heap.size ≤ b)) (ParC.VC [ParC.EQ (pv q), (fun _ => True), ParC.EQ (pv q), ParC.EQ (pv q), ParC.EQ (Value.pointer (some ⟨q, 2, none⟩)), ParC.EQ (Value.slice (some a) N cap), ParC.EQ (Value.int IntKind.i64 (k : Int)), (fun v => ∃ c : Option Addr × Nat × Nat, v = Value.slice c.1 c.2.1 c.2.2 ∧ SlC w3 v A), (fun _ => True), ParC.EQ (vN x), ParC.EQ (Value.agg #[vN x, .int .u64 0]), (fun _ => True), (fun _ => True), ParC.EQ (pv q), ParC.EQ (pv q), ParC.EQ (Value.pointer (some ⟨q, 2, none⟩)), ParC.EQ (Value.slice (some a) N cap), ParC.EQ (Value.int IntKind.i64 (k : Int)), (fun v => ∃ c : Option Addr × Nat × Nat, v = Value.slice c.1 c.2.1 c.2.2 ∧ SlC w3 v C), (fun _ => True), ParC.EQ (pv q), ParC.EQ (Value.pointer (some ⟨q, 2, none⟩)), fun _ => True]) (by kernel_rfl) (by kernel_rfl) (Rg.Mx.start NxQ.st) ?_ ?_
        · refine ⟨fun L ρ w' hR hC hL hd hk => ?_, ?_⟩
          · exact Par.val_of_run rfl ⟨hR.other (by decide), hk.1⟩
          refine ⟨fun L ρ w' hR hC hL hd hk => ?_, ?_⟩
          · obtain ⟨-⟩ := hk
            skip
            refine Par.val_k fun K hK => ?_
            unfold Par.val
            (have hz := hC.notyet 22 1 hL (by kernel_rfl); have hx := hR.a hz; go_simp; exact hK _ _ ⟨hR.grow hz (by decide) (Ext.alloc _ _) ⟨w'.heap.size, rfl, heap_alloc_new w' _, hx.size⟩, trivial⟩)
          refine ⟨fun L ρ w' hR hC hL hd hk => ?_, ?_⟩
          · exact Par.val_of_run rfl ⟨hR.other (by decide), hk.1⟩
          refine ⟨fun L ρ w' hR hC hL hd hk => ?_, ?_⟩
          · obtain ⟨k0, -⟩ := hk
            have e0 : ρ (.tmp 69) = pv q := k0
            clear k0
            refine Par.val_k fun K hK => ?_
            unfold Par.val
            (go_simp; exact hK _ _ ⟨hR.other (by decide), rfl⟩)
          refine ⟨fun L ρ w' hR hC hL hd hk => ?_, ?_⟩
          · obtain ⟨k0, -⟩ := hk
            have e0 : ρ (.tmp 70) = pv q := k0
            clear k0
            refine Par.val_k fun K hK => ?_
            unfold Par.val
            (go_simp; exact hK _ _ ⟨hR.other (by decide), rfl⟩)
          refine ⟨fun L ρ w' hR hC hL hd hk => ?_, ?_⟩
          · obtain ⟨k0, -⟩ := hk
            have e0 : ρ (.tmp 71) = Value.pointer (some ⟨q, 2, none⟩) := k0
            clear k0
            refine Par.val_k fun K hK => ?_
            unfold Par.val
            (have hx := hR.a (hC.notyet 22 5 hL (by kernel_rfl)); have cc := hx.cell HC2.out; go_simp; exact hK _ _ ⟨hR.other (by decide), rfl⟩)
          refine ⟨fun L ρ w' hR hC hL hd hk => ?_, ?_⟩
          · exact Par.val_of_run rfl ⟨hR.other (by decide), hk.1⟩
          refine ⟨fun L ρ w' hR hC hL hd hk => ?_, ?_⟩
          · obtain ⟨k0, k1, -⟩ := hk
            have e0 : ρ (.tmp 72) = Value.slice (some a) N cap := k0
            have e1 : ρ (.tmp 73) = Value.int IntKind.i64 (k : Int) := k1
            clear k0 k1
            refine Par.val_k fun K hK => ?_
            unfold Par.val
            (have hk9 : k ≤ cap := (by have := HK.out; omega); go_simp; exact hK _ _ ⟨hR.other (by decide), ⟨(_, _, _), rfl, HSA.out⟩⟩)
          refine ⟨fun L ρ w' hR hC hL hd hk => ?_, ?_⟩
          · obtain ⟨k0, k1, -⟩ := hk
            have e0 : (fun _ => True) (ρ (.tmp 68))  := k0
            have e1 : (fun v => ∃ c : Option Addr × Nat × Nat, v = Value.slice c.1 c.2.1 c.2.2 ∧ SlC w3 v A) (ρ (.tmp 74))  := k1
            clear k0 k1
            refine Par.val_k fun K hK => ?_
            unfold Par.val
            (have hz := hC.notyet 22 8 hL (by kernel_rfl); have hx := hR.a hz; obtain ⟨g, eg, hg, hgl⟩ : NxQ w3 x A C 68 (ρ (.tmp 68)) w' := hR.get 1 68 8 (by decide) (hC.before 1 (i := 8) rfl hd (by kernel_rfl)) hL; obtain ⟨c74, e74, hsl⟩ := e1; obtain ⟨a9, c9, w9, r1, r2, r3, r4⟩ := run_append_sl (P := Tryd.prog) w3.heap.size 30 30 52 Tryd.underlying30 infoRC rfl (by decide) (emp_own hg hgl) (Sl.ext hsl hx) (encC_one _) (by have := HKA0.out; have := HK.out; have := H8.out; simp [maxLen]; omega) (by have := HKA0.out; have := HK.out; have := H8.out; omega) hx.size; rw [← eg] at r1; have hfr := fr_grown r3 r4; exact Par.val_append r1 (hK _ _ ⟨hR.app [] [12, 19] [(11, 78, 12)] hz (by simp) (by simp; exact ⟨hC.notyet 12 8 hL (by kernel_rfl), hC.notyet 19 8 hL (by kernel_rfl)⟩) (by decide) (by intro y hy; simp at hy; subst hy; rintro ⟨g2, eg2, hg2⟩; refine ⟨g2, eg2, fr_at hfr hg2 (fun hm => ?_)⟩; simp [oB, Value.ownBlock] at hm; subst hm; rw [hg] at hg2; cases hg2) (Below.trans hx r4) (by show World.ownsRow _ _ _ _ _ _ _; simpa using r2), trivial⟩))
          refine ⟨fun L ρ w' hR hC hL hd hk => ?_, ?_⟩
          · exact Par.val_of_run rfl ⟨hR.other (by decide), hk.1⟩
          refine ⟨fun L ρ w' hR hC hL hd hk => ?_, ?_⟩
          · obtain ⟨k0, k1, -⟩ := hk
            have e0 : ρ (.tmp 76) = vN x := k0
            have e1 : ρ (Operand.const (Value.int IntKind.u64 0)) = (Value.int IntKind.u64 0) := k1
            clear k0 k1
            refine Par.val_k fun K hK => ?_
            unfold Par.val
            (go_simp; exact hK _ _ ⟨hR.other (by decide), rfl⟩)
          refine ⟨fun L ρ w' hR hC hL hd hk => ?_, ?_⟩
          · obtain ⟨k0, -⟩ := hk
            have e0 : ρ (.tmp 77) = Value.agg #[vN x, .int .u64 0] := k0
            clear k0
            refine Par.val_k fun K hK => ?_
            unfold Par.val
            (have hz := hC.notyet 22 11 hL (by kernel_rfl); have hx := hR.a hz; go_simp; exact hK _ _ ⟨hR.grow hz (by decide) (Ext.alloc _ _) ⟨w'.heap.size, rfl, heap_alloc_new w' _⟩, trivial⟩)
          refine ⟨fun L ρ w' hR hC hL hd hk => ?_, ?_⟩
          · obtain ⟨k0, k1, -⟩ := hk
            have e0 : (fun _ => True) (ρ (.tmp 75))  := k0
            have e1 : (fun _ => True) (ρ (.tmp 78))  := k1
            clear k0 k1
            refine Par.val_k fun K hK => ?_
            unfold Par.val
            (have hz := hC.notyet 22 12 hL (by kernel_rfl); have hx := hR.a hz; have h75 : NxQ w3 x A C 75 (ρ (.tmp 75)) w' := hR.get 8 75 12 (by decide) (hC.before 8 (i := 12) rfl hd (by kernel_rfl)) hL; obtain ⟨g, eg, hg⟩ : NxQ w3 x A C 78 (ρ (.tmp 78)) w' := hR.get 11 78 12 (by decide) (hC.before 11 (i := 12) rfl hd (by kernel_rfl)) hL; obtain ⟨a9, c9, w9, r1, r2, r3, r4⟩ := run_append_sl (P := Tryd.prog) w3.heap.size 30 30 52 Tryd.underlying30 infoRC rfl (by decide) h75 (cur_at hg) (by intro y hy; simp at hy; rcases hy with rfl | rfl <;> rfl) (by have := HKA0.out; have := HK.out; have := H8.out; simp [maxLen]; omega) (by have := HKA0.out; have := HK.out; have := H8.out; omega) hx.size; rw [← eg] at r1; exact Par.val_append r1 (hK _ _ ⟨hR.app [8] [19] [] hz (by simp; exact hC.before 8 (i := 12) rfl hd (by kernel_rfl)) (by simp; exact hC.notyet 19 12 hL (by kernel_rfl)) (by decide) (by simp) (Below.trans hx r4) r2, trivial⟩))
          refine ⟨fun L ρ w' hR hC hL hd hk => ?_, ?_⟩
          · exact Par.val_of_run rfl ⟨hR.other (by decide), hk.1⟩
          refine ⟨fun L ρ w' hR hC hL hd hk => ?_, ?_⟩
          · obtain ⟨k0, -⟩ := hk
            have e0 : ρ (.tmp 80) = pv q := k0
            clear k0
            refine Par.val_k fun K hK => ?_
            unfold Par.val
            (go_simp; exact hK _ _ ⟨hR.other (by decide), rfl⟩)
          refine ⟨fun L ρ w' hR hC hL hd hk => ?_, ?_⟩
          · obtain ⟨k0, -⟩ := hk
            have e0 : ρ (.tmp 81) = pv q := k0
            clear k0
            refine Par.val_k fun K hK => ?_
            unfold Par.val
            (go_simp; exact hK _ _ ⟨hR.other (by decide), rfl⟩)
          refine ⟨fun L ρ w' hR hC hL hd hk => ?_, ?_⟩
          · obtain ⟨k0, -⟩ := hk
            have e0 : ρ (.tmp 82) = Value.pointer (some ⟨q, 2, none⟩) := k0
            clear k0
            refine Par.val_k fun K hK => ?_
            unfold Par.val
            (have hx := hR.a (hC.notyet 22 16 hL (by kernel_rfl)); have cc := hx.cell HC2.out; go_simp; exact hK _ _ ⟨hR.other (by decide), rfl⟩)
          refine ⟨fun L ρ w' hR hC hL hd hk => ?_, ?_⟩
          · exact Par.val_of_run rfl ⟨hR.other (by decide), hk.1⟩
          refine ⟨fun L ρ w' hR hC hL hd hk => ?_, ?_⟩
          · obtain ⟨k0, k1, -⟩ := hk
            have e0 : ρ (.tmp 83) = Value.slice (some a) N cap := k0
            have e1 : ρ (.tmp 84) = Value.int IntKind.i64 (k : Int) := k1
            clear k0 k1
            refine Par.val_k fun K hK => ?_
            unfold Par.val
            (have hk9 : k ≤ cap := (by have := HK.out; omega); go_simp; exact hK _ _ ⟨hR.other (by decide), ⟨(_, _, _), rfl, HSC.out _ _ _ (by first | rfl | (rw [if_neg (by omega)]; rfl) | simp) (by omega) (by omega)⟩⟩)
          refine ⟨fun L ρ w' hR hC hL hd hk => ?_, ?_⟩
          · obtain ⟨k0, k1, -⟩ := hk
            have e0 : (fun _ => True) (ρ (.tmp 79))  := k0
            have e1 : (fun v => ∃ c : Option Addr × Nat × Nat, v = Value.slice c.1 c.2.1 c.2.2 ∧ SlC w3 v C) (ρ (.tmp 85))  := k1
            clear k0 k1
            refine Par.val_k fun K hK => ?_
            unfold Par.val
            (have hz := hC.notyet 22 19 hL (by kernel_rfl); have hx := hR.a hz; have h79 : NxQ w3 x A C 79 (ρ (.tmp 79)) w' := hR.get 12 79 19 (by decide) (hC.before 12 (i := 19) rfl hd (by kernel_rfl)) hL; obtain ⟨c85, e85, hsl⟩ := e1; obtain ⟨a9, c9, w9, r1, r2, r3, r4⟩ := run_append_sl (P := Tryd.prog) w3.heap.size 30 30 52 Tryd.underlying30 infoRC rfl (by decide) h79 (Sl.ext hsl hx) (encC_one _) (by have := HKA0.out; have := HK.out; have := H8.out; have := HCL0.out; simp [maxLen]; omega) (by have := HKA0.out; have := HK.out; have := H8.out; have := HCL0.out; omega) hx.size; have e3 : (A ++ List.cons (x, 0) C).length = A.length + 1 + C.length := (by simp; omega); have e4 : (A ++ List.cons (x, 0) C).flatMap encC = A.flatMap encC ++ encC (x, 0) ++ C.flatMap encC := (by simp); exact Par.val_append r1 (hK _ _ ⟨hR.app [8, 12] [] [] hz (by simp; exact ⟨hC.before 8 (i := 19) rfl hd (by kernel_rfl), hC.before 12 (i := 19) rfl hd (by kernel_rfl)⟩) (by simp) (by decide) (by simp) (Below.trans hx r4) (by show World.ownsRow _ _ _ _ _ _ _; rw [e3, e4]; exact r2), trivial⟩))
          refine ⟨fun L ρ w' hR hC hL hd hk => ?_, ?_⟩
          · obtain ⟨k0, -⟩ := hk
            have e0 : ρ (.tmp 67) = pv q := k0
            clear k0
            refine Par.val_k fun K hK => ?_
            unfold Par.val
            (go_simp; exact hK _ _ ⟨hR.other (by decide), rfl⟩)
          refine ⟨fun L ρ w' hR hC hL hd hk => ?_, ?_⟩
          · obtain ⟨k0, -⟩ := hk
            have e0 : ρ (.tmp 87) = pv q := k0
            clear k0
            refine Par.val_k fun K hK => ?_
            unfold Par.val
            (go_simp; exact hK _ _ ⟨hR.other (by decide), rfl⟩)
          refine ⟨fun L ρ w' hR hC hL hd hk => ?_, ?_⟩
          · obtain ⟨k0, k1, -⟩ := hk
            have e0 : ρ (.tmp 88) = Value.pointer (some ⟨q, 2, none⟩) := k0
            have e1 : (fun _ => True) (ρ (.tmp 86))  := k1
            clear k0 k1
            refine Par.val_k fun K hK => ?_
            unfold Par.val
            (have hx := hR.a hL; have h86 : NxQ w3 x A C 86 (ρ (.tmp 86)) w' := hR.get 19 86 22 (by decide) (hC.before 19 (i := 22) rfl hd (by kernel_rfl)) hL; have hr := H4.out.ext hx; obtain ⟨-, -, cc, ff⟩ := lk3 hr.hd; have f2 := ff 2; obtain ⟨o6, c6, h6⟩ := row_shape h86; have hset := block_set hr.hd 2 (ρ (.tmp 86)); have hfs : Fr [q] w' (w'.setCell ⟨q, 2, none⟩ (ρ (.tmp 86))) := fr_setCell _ _ _ (by simp); have hres := hid (show ∃ vs', RDD B (w'.setCell ⟨q, 2, none⟩ (ρ (.tmp 86))) q (.slice ro NR rc) vs' { s with seen := A ++ List.cons (x, 0) C } ∧ Fr [q] w3 (w'.setCell ⟨q, 2, none⟩ (ρ (.tmp 86))) ∧ ∀ b ∈ oB vs', w3.heap.size ≤ b from ⟨ρ (.tmp 86), ⟨hset, ownsRow_fr hr.rr hfs (fun b hb hm => hr.sepR b hb (by simp at hm; simp [hm])), ownsRow_fr (owns_mono h86 (Nat.le_trans HB.out (HE2.out.trans HE3.out).size)) hfs (fun b hb hm => by have := row_lo h86 b hb; have h3 := (Array.getElem?_eq_some_iff.1 H4.out.hd).1; simp at hm; omega), hr.lo⟩, (Ext.fr hx).trans hfs, row_lo h86⟩); clear hset hfs h86 hr ff; obtain ⟨v86, e86⟩ : ∃ v, ρ (.tmp 86) = v := ⟨_, rfl⟩; obtain ⟨N6, hN6⟩ : ∃ N6, (A ++ List.cons (x, (0 : UInt64)) C).length = N6 := ⟨_, rfl⟩; rw [hN6] at h6; rw [e86] at h6 hres; have e9 : ρ (.tmp 86) = .slice o6 N6 c6 := (by rw [e86]; exact h6); subst h6; clear hN6; go_simp; exact hK _ _ ⟨hR.last [8, 12, 19] (by simp; exact ⟨hC.before 8 (i := 22) rfl hd (by kernel_rfl), hC.before 12 (i := 22) rfl hd (by kernel_rfl), hC.before 19 (i := 22) rfl hd (by kernel_rfl)⟩) (by decide) hres.out, trivial⟩)
          trivial
        intro a' w' inv hR
        have q67 : a'.tmps.getD 67 undef = pv q := inv.done 0 _ 67 rfl rfl rfl
        have q68 : (fun _ => True) (a'.tmps.getD 68 undef)  := inv.done 1 _ 68 rfl rfl rfl
        have q69 : a'.tmps.getD 69 undef = pv q := inv.done 2 _ 69 rfl rfl rfl
        have q70 : a'.tmps.getD 70 undef = pv q := inv.done 3 _ 70 rfl rfl rfl
        have q71 : a'.tmps.getD 71 undef = Value.pointer (some ⟨q, 2, none⟩) := inv.done 4 _ 71 rfl rfl rfl
        have q72 : a'.tmps.getD 72 undef = Value.slice (some a) N cap := inv.done 5 _ 72 rfl rfl rfl
        have q73 : a'.tmps.getD 73 undef = Value.int IntKind.i64 (k : Int) := inv.done 6 _ 73 rfl rfl rfl
        have q74 : (fun v => ∃ c : Option Addr × Nat × Nat, v = Value.slice c.1 c.2.1 c.2.2 ∧ SlC w3 v A) (a'.tmps.getD 74 undef)  := inv.done 7 _ 74 rfl rfl rfl
        have q75 : (fun _ => True) (a'.tmps.getD 75 undef)  := inv.done 8 _ 75 rfl rfl rfl
        have q76 : a'.tmps.getD 76 undef = vN x := inv.done 9 _ 76 rfl rfl rfl
        have q77 : a'.tmps.getD 77 undef = Value.agg #[vN x, .int .u64 0] := inv.done 10 _ 77 rfl rfl rfl
        have q78 : (fun _ => True) (a'.tmps.getD 78 undef)  := inv.done 11 _ 78 rfl rfl rfl
        have q79 : (fun _ => True) (a'.tmps.getD 79 undef)  := inv.done 12 _ 79 rfl rfl rfl
        have q80 : a'.tmps.getD 80 undef = pv q := inv.done 13 _ 80 rfl rfl rfl
        have q81 : a'.tmps.getD 81 undef = pv q := inv.done 14 _ 81 rfl rfl rfl
        have q82 : a'.tmps.getD 82 undef = Value.pointer (some ⟨q, 2, none⟩) := inv.done 15 _ 82 rfl rfl rfl
        have q83 : a'.tmps.getD 83 undef = Value.slice (some a) N cap := inv.done 16 _ 83 rfl rfl rfl
        have q84 : a'.tmps.getD 84 undef = Value.int IntKind.i64 (k : Int) := inv.done 17 _ 84 rfl rfl rfl
        have q85 : (fun v => ∃ c : Option Addr × Nat × Nat, v = Value.slice c.1 c.2.1 c.2.2 ∧ SlC w3 v C) (a'.tmps.getD 85 undef)  := inv.done 18 _ 85 rfl rfl rfl
        have q86 : (fun _ => True) (a'.tmps.getD 86 undef)  := inv.done 19 _ 86 rfl rfl rfl
        have q87 : a'.tmps.getD 87 undef = pv q := inv.done 20 _ 87 rfl rfl rfl
        have q88 : a'.tmps.getD 88 undef = Value.pointer (some ⟨q, 2, none⟩) := inv.done 21 _ 88 rfl rfl rfl
        clear inv
        simp only [List.filterMap_cons, List.filterMap_nil, Par.putAll, Act.put, List.setIfInBounds_toArray, List.set_cons_succ, List.set_cons_zero, q67, q69, q70, q71, q72, q73, q76, q77, q80, q81, q82, q83, q84, q87, q88]
        clear q67 q69 q70 q71 q72 q73 q76 q77 q80 q81 q82 q83 q84 q87 q88
        have hfin := Rg.Mx.fin hR (by decide); have HFIN := hid hfin; clear hfin hR
        generalize a'.tmps.getD 68 undef = u68 at *
        generalize a'.tmps.getD 74 undef = u74 at *
        generalize a'.tmps.getD 75 undef = u75 at *
        generalize a'.tmps.getD 78 undef = u78 at *
        generalize a'.tmps.getD 79 undef = u79 at *
        generalize a'.tmps.getD 85 undef = u85 at *
        generalize a'.tmps.getD 86 undef = u86 at *
        try clear a'
        obtain ⟨vs5, hr5, hf5, hob5⟩ := HFIN.out
        obtain ⟨N5, hN5⟩ : ∃ N, (A ++ (x, (0 : UInt64)) :: C).length = N := ⟨_, rfl⟩
        obtain ⟨g5, c5, hv5, hc5, hc6, -⟩ := row_open hr5.ss (by show 0 < (A ++ (x, 0) :: C).length; simp; omega)
        dsimp only at hv5 hc5
        rw [hN5] at hv5 hc5
        subst hv5
        have hk5 : (k : Int) < N5 := by have := HKA0.out; rw [← hN5]; simp; omega
        obtain ⟨a5, ha5⟩ : ∃ a, (⟨g5, 0, none⟩ : Addr) = a := ⟨_, rfl⟩
        rw [ha5] at hr5
        have HAG := hid ha5.symm
        have HG5 : Hid (g5 ∈ S0 ∨ w.heap.size ≤ g5) := hid (.inr (Nat.le_trans (HE2.out.trans HE3.out).size (hob5 g5 (by simp [oB, Value.ownBlock]))))
        obtain ⟨p0, hp0⟩ : ∃ p : UInt64, (0 : UInt64) = p := ⟨_, rfl⟩
        rw [hp0] at hr5
        have HR5 := hid hr5
        have HRS : Hid (R = ((tk s.rows p0 n s.rows.length).map Prod.fst, 0, { s with seen := A ++ (x, lastP p0 (tk s.rows p0 n s.rows.length)) :: C })) := hid (by have := HRS0.out; rw [hp0] at this; exact this)
        have HF5 : Hid (Fr S0 w w') := hid (HF4.out.trans (hf5.mono (by intro y hy; simp at hy; rw [← HS0.out]; simp [hy])))
        clear hr5 hf5 hob5 hN5 ha5 hp0 HFIN HRS0 HSA HSC
        generalize w' = W5 at *
        have HC0 : Hid (∀ o, (W5.alloc o).cell? ⟨q, 2, none⟩ = some (.slice (some a5) N5 c5)) := hid (fun o => (Ext.alloc _ o).cell (lk3 HR5.out.hd).2.2.1)
        have HC1 : Hid (∀ o, (W5.alloc o).cell? ⟨(a5.add (k * 2)).block, (a5.add (k * 2)).off + 1, none⟩ = some (vU p0)) := hid (fun o => (Ext.alloc _ o).cell (by
          have := HR5.out
          rw [HAG.out] at this ⊢
          have h9 := this.pl.1
          rw [HKA0.out] at h9
          rw [addr0]; exact h9))
        have hc0 := HC0.out
        have hc1 := HC1.out
        have HO6 : Hid ((W5.alloc (.cells #[] 29)).ownsRow w.heap.size 29 1 (.slice (some ⟨W5.heap.size, 0, none⟩) 0 0) 0 []) := hid (owns_mono (World.ownsRow_lit (base := W5.heap.size) (e := 29) (size := 1) W5 #[] 0 (Nat.le_refl _) (by simp [maxLen]) (by simp)) HF5.out.size)
        have HR6 := hid (HR5.out.ext (Ext.alloc W5 (.cells #[] 29)))
        have HF6 := hid (HF5.out.trans (Ext.fr (S := S0) (Ext.alloc W5 (.cells #[] 29))))
        clear HC0 HC1 HF5
        go_wp2
        clear hc0 hc1 HR5
        go_loopw [9, 11] (fun ov iv wr => ∃ (j m : Nat) (oo : Option Addr) (oc : Nat), j ≤ NR ∧ iv = .int .i64 (j : Int) ∧ ov = .slice oo m oc ∧ Hid (m = ((tk s.rows p0 n j).map Prod.fst).length) ∧ Hid (wr.ownsRow w.heap.size 29 1 (.slice oo m oc) ((tk s.rows p0 n j).map Prod.fst).length (((tk s.rows p0 n j).map Prod.fst).map uv)) ∧ Hid (RDD B wr q (.slice ro NR rc) (.slice (some a5) N5 c5) { s with seen := A ++ (x, lastP p0 (tk s.rows p0 n j)) :: C }) ∧ Hid (Fr S0 w wr)) (fun _ iv _ => NR - (intOf iv).toNat)
        case atStart => exact ⟨0, 0, _, _, by omega, rfl, rfl, hid (by rw [tk_zero]; rfl), hid (by rw [tk_zero]; exact HO6.out), hid (by rw [tk_zero, lastP_nil]; exact HR6.out), HF6⟩
        case round =>
          clear HO6 HR6 HF6
          obtain ⟨j, m, oo, oc, hj, rfl, rfl, HM, HO, HD, HF⟩ := hrel
          obtain ⟨d0, -, d2, -⟩ := lk3 HD.out.hd
          by_cases hjl : j < NR
          · have hji : decide ((j : Int) < (NR : Int)) = true := by simp; omega
            have hjr : j < s.rows.length := by rw [HNR.out]; exact hjl
            have hsl := Sl.of_owns HD.out.rr
            dsimp only at hsl
            rw [HNR.out] at hsl
            obtain ⟨hle2, hm2, hz2, hc2⟩ := Sl.cells hsl
            have hmm2 : rc ≤ 9223372036854775807 := by simpa [maxLen] using hm2
            obtain ⟨rb, rfl⟩ : ∃ a, ro = some a := by
              cases ro with
              | none => have := hz2 rfl; omega
              | some a => exact ⟨a, rfl⟩
            obtain ⟨g0, g1⟩ := flat2_get (A := fun z : UInt64 × UInt64 => vU z.1) (Bf := fun z => vU z.2) s.rows j hjr
            have t0 := cell_first (i := j * 2) (hc2 rb rfl _ _ g0)
            have t1 := cell_next (i := j * 2) (j := 1) (hc2 rb rfl _ _ g1) (by decide)
            obtain ⟨y, hy⟩ : ∃ y, s.rows[j] = y := ⟨_, rfl⟩
            have HY : Hid (∃ h : j < s.rows.length, s.rows[j] = y) := hid ⟨hjr, hy⟩
            rw [hy] at t0 t1
            obtain ⟨y1, y2⟩ := y
            clear g0 g1 hy hsl hm2 hz2 hc2 hjr
            by_cases hp : p0 < y2
            · have hpb : decide (p0.toNat < y2.toNat) = true := by rw [UInt64.lt_iff_toNat_lt] at hp; simpa using hp
              have HP := hid hp
              clear hp
              by_cases hmn : (m : Int) < n
              · have hmb : decide ((m : Int) < n) = true := by simpa using hmn
                have HTK : Hid (tk s.rows p0 n (j + 1) = tk s.rows p0 n j ++ [(y1, y2)]) := hid (by
                  obtain ⟨hj2, e⟩ := HY.out
                  have h1 := tk_more hj2 (pl := p0) (n := n) (by rw [e]; exact HP.out) (by have := HM.out; rw [List.length_map] at this; rw [← this]; exact hmn)
                  rw [e] at h1; exact h1)
                have HML : Hid (m ≤ 100000) := hid (by have := tk_len s.rows p0 n j; have := HM.out; rw [List.length_map] at this; have := HLR.out; have := HNR.out; omega)
                have hml := HML.out
                clear hmn
                go_wp2_with (at_builtin; refine wpList_append_ids_at rfl (.tmp 123) (.tmp 132) 35 rfl w.heap.size 29 Tryd.underlying35 infoU64 rfl ((Ext.alloc wr _).owns HO.out) rfl (Vec.one _ _ _ y1 rfl) (m + 1) (by have := HM.out; simp at this ⊢; omega) (by have := HML.out; omega) (Nat.le_trans HF.out.size (by simp)) ?_; intro ao2 cap2 w14 hO hg hat; have HO4 := hid hO; have HD4 := hid ((HD.out.ext (Ext.alloc wr _)).frU ((Ext.alloc wr _).owns HO.out) hg); have HF4b : Hid (Fr S0 w w14) := hid (fr_add (HF.out.trans (Ext.fr (Ext.alloc wr _))) hg (fun b hb => Or.inr (row_lo HO.out b hb))); clear hO hg hat)
                clear t0 t1 d0 d2 hpb hmb hml
                have HT1 : Hid (w14.cell? ⟨(rb.add (j * 2)).block, (rb.add (j * 2)).off + 1, none⟩ = some (vU y2)) := hid (HD4.out.rowAt HY.out HNR.out)
                refine ParE.wp_region_e (l := [_, _, _, _, _, _, _, _, _, _, _, _, _, _, _, _]) rfl (Rg.Ch [15] [] (OneQ w14 fun w' => RDD B w' q (.slice (some rb) NR rc) (.slice (some a5) N5 c5) { s with seen := A ++ List.cons (x, y2) (C) } ∧ Fr [g5] w14 w')) (ParC.VC [ParC.EQ (pv q), ParC.EQ (pv q), ParC.EQ (Value.pointer (some ⟨q, 2, none⟩)), ParC.EQ (Value.slice (some a5) N5 c5), ParC.EQ (Value.int IntKind.i64 (k : Int)), ParC.EQ (pv q), ParC.EQ (pv q), ParC.EQ (Value.pointer (some ⟨q, 0, none⟩)), ParC.EQ (Value.slice (some rb) NR rc), ParC.EQ (Value.int IntKind.i64 (j : Int)), ParC.EQ (Value.pointer (some (rb.add (j * 2)))), ParC.EQ (Value.pointer (some ⟨(rb.add (j * 2)).block, (rb.add (j * 2)).off + 1, none⟩)), ParC.EQ (vU y2), ParC.EQ (Value.pointer (some (a5.add (k * 2)))), ParC.EQ (Value.pointer (some ⟨(a5.add (k * 2)).block, (a5.add (k * 2)).off + 1, none⟩)), fun _ => True]) (by kernel_rfl) (by kernel_rfl) (Rg.Ch.start ⟨fun _ => Ext.draw _, trivial⟩) ?_ ?_
                · refine ⟨fun L ρ w' hR hC hL hd hk => ?_, ?_⟩
                  · exact Par.val_of_run rfl ⟨hR.other (by decide), hk.1⟩
                  refine ⟨fun L ρ w' hR hC hL hd hk => ?_, ?_⟩
                  · obtain ⟨k0, -⟩ := hk
                    have e0 : ρ (.tmp 134) = pv q := k0
                    clear k0
                    refine Par.val_k fun K hK => ?_
                    unfold Par.val
                    (go_simp; exact hK _ _ ⟨hR.other (by decide), rfl⟩)
                  refine ⟨fun L ρ w' hR hC hL hd hk => ?_, ?_⟩
                  · obtain ⟨k0, -⟩ := hk
                    have e0 : ρ (.tmp 135) = pv q := k0
                    clear k0
                    refine Par.val_k fun K hK => ?_
                    unfold Par.val
                    (go_simp; exact hK _ _ ⟨hR.other (by decide), rfl⟩)
                  refine ⟨fun L ρ w' hR hC hL hd hk => ?_, ?_⟩
                  · obtain ⟨k0, -⟩ := hk
                    have e0 : ρ (.tmp 136) = Value.pointer (some ⟨q, 2, none⟩) := k0
                    clear k0
                    refine Par.val_k fun K hK => ?_
                    unfold Par.val
                    (obtain ⟨i, hi, hq⟩ := hR.some 0 rfl (hC.notyet 15 3 hL (by kernel_rfl)); have cc := (lk3 (HD4.out.ext (hq.1 (by omega))).hd).2.2.1; go_simp; exact hK _ _ ⟨hR.other (by decide), rfl⟩)
                  refine ⟨fun L ρ w' hR hC hL hd hk => ?_, ?_⟩
                  · exact Par.val_of_run rfl ⟨hR.other (by decide), hk.1⟩
                  refine ⟨fun L ρ w' hR hC hL hd hk => ?_, ?_⟩
                  · exact Par.val_of_run rfl ⟨hR.other (by decide), hk.1⟩
                  refine ⟨fun L ρ w' hR hC hL hd hk => ?_, ?_⟩
                  · obtain ⟨k0, -⟩ := hk
                    have e0 : ρ (.tmp 139) = pv q := k0
                    clear k0
                    refine Par.val_k fun K hK => ?_
                    unfold Par.val
                    (go_simp; exact hK _ _ ⟨hR.other (by decide), rfl⟩)
                  refine ⟨fun L ρ w' hR hC hL hd hk => ?_, ?_⟩
                  · obtain ⟨k0, -⟩ := hk
                    have e0 : ρ (.tmp 140) = pv q := k0
                    clear k0
                    refine Par.val_k fun K hK => ?_
                    unfold Par.val
                    (go_simp; exact hK _ _ ⟨hR.other (by decide), rfl⟩)
                  refine ⟨fun L ρ w' hR hC hL hd hk => ?_, ?_⟩
                  · obtain ⟨k0, -⟩ := hk
                    have e0 : ρ (.tmp 141) = Value.pointer (some ⟨q, 0, none⟩) := k0
                    clear k0
                    refine Par.val_k fun K hK => ?_
                    unfold Par.val
                    (obtain ⟨i, hi, hq⟩ := hR.some 0 rfl (hC.notyet 15 8 hL (by kernel_rfl)); have cc := (lk3 (HD4.out.ext (hq.1 (by omega))).hd).1; go_simp; exact hK _ _ ⟨hR.other (by decide), rfl⟩)
                  refine ⟨fun L ρ w' hR hC hL hd hk => ?_, ?_⟩
                  · exact Par.val_of_run rfl ⟨hR.other (by decide), hk.1⟩
                  refine ⟨fun L ρ w' hR hC hL hd hk => ?_, ?_⟩
                  · obtain ⟨k0, k1, -⟩ := hk
                    have e0 : ρ (.tmp 142) = Value.slice (some rb) NR rc := k0
                    have e1 : ρ (.tmp 143) = Value.int IntKind.i64 (j : Int) := k1
                    clear k0 k1
                    refine Par.val_k fun K hK => ?_
                    unfold Par.val
                    (go_simp; exact hK _ _ ⟨hR.other (by decide), rfl⟩)
                  refine ⟨fun L ρ w' hR hC hL hd hk => ?_, ?_⟩
                  · obtain ⟨k0, -⟩ := hk
                    have e0 : ρ (.tmp 144) = Value.pointer (some (rb.add (j * 2))) := k0
                    clear k0
                    refine Par.val_k fun K hK => ?_
                    unfold Par.val
                    (go_simp; exact hK _ _ ⟨hR.other (by decide), rfl⟩)
                  refine ⟨fun L ρ w' hR hC hL hd hk => ?_, ?_⟩
                  · obtain ⟨k0, -⟩ := hk
                    have e0 : ρ (.tmp 145) = Value.pointer (some ⟨(rb.add (j * 2)).block, (rb.add (j * 2)).off + 1, none⟩) := k0
                    clear k0
                    refine Par.val_k fun K hK => ?_
                    unfold Par.val
                    (obtain ⟨i, hi, hq⟩ := hR.some 0 rfl (hC.notyet 15 12 hL (by kernel_rfl)); have cc := (hq.1 (by omega)).cell HT1.out; go_simp; exact hK _ _ ⟨hR.other (by decide), rfl⟩)
                  refine ⟨fun L ρ w' hR hC hL hd hk => ?_, ?_⟩
                  · obtain ⟨k0, k1, -⟩ := hk
                    have e0 : ρ (.tmp 137) = Value.slice (some a5) N5 c5 := k0
                    have e1 : ρ (.tmp 138) = Value.int IntKind.i64 (k : Int) := k1
                    clear k0 k1
                    refine Par.val_k fun K hK => ?_
                    unfold Par.val
                    (go_simp; exact hK _ _ ⟨hR.other (by decide), rfl⟩)
                  refine ⟨fun L ρ w' hR hC hL hd hk => ?_, ?_⟩
                  · obtain ⟨k0, -⟩ := hk
                    have e0 : ρ (.tmp 147) = Value.pointer (some (a5.add (k * 2))) := k0
                    clear k0
                    refine Par.val_k fun K hK => ?_
                    unfold Par.val
                    (go_simp; exact hK _ _ ⟨hR.other (by decide), rfl⟩)
                  refine ⟨fun L ρ w' hR hC hL hd hk => ?_, ?_⟩
                  · obtain ⟨k0, k1, -⟩ := hk
                    have e0 : ρ (.tmp 148) = Value.pointer (some ⟨(a5.add (k * 2)).block, (a5.add (k * 2)).off + 1, none⟩) := k0
                    have e1 : ρ (.tmp 146) = vU y2 := k1
                    clear k0 k1
                    refine Par.val_k fun K hK => ?_
                    unfold Par.val
                    (obtain ⟨hq, hs⟩ := hR.go 0 rfl hL (.inl rfl) (by decide); have hx := hq.1 (by decide); have hd9 := HD4.out.ext hx; rw [HAG.out] at hd9; have hpl := hd9.pl; have hst := hd9.store y2; rw [HKA0.out] at hpl hst; have hadr : Hid ((⟨(a5.add (k * 2)).block, (a5.add (k * 2)).off + 1, none⟩ : Addr) = ⟨g5, k * 2 + 1, none⟩) := hid (by rw [HAG.out, addr0]); obtain ⟨pl, hpl1⟩ : ∃ u, w'.cell? ⟨(a5.add (k * 2)).block, (a5.add (k * 2)).off + 1, none⟩ = some (vU u) := ⟨_, by rw [hadr.out]; exact hpl.1⟩; have ff : w'.frozen? ⟨(a5.add (k * 2)).block, (a5.add (k * 2)).off + 1, none⟩ = false := (by rw [hadr.out]; exact hpl.2); have hres := hid hst; clear hd9 hpl hst; go_simp; rw [hadr.out]; exact hK _ _ ⟨hs none _ _ ⟨fun h => absurd h (by decide), by have := hres.out; rw [HAG.out]; exact ⟨this.1, (Ext.fr hx).trans this.2⟩⟩, trivial⟩)
                  trivial
                intro a' w' inv hR
                have q134 : a'.tmps.getD 134 undef = pv q := inv.done 0 _ 134 rfl rfl rfl
                have q135 : a'.tmps.getD 135 undef = pv q := inv.done 1 _ 135 rfl rfl rfl
                have q136 : a'.tmps.getD 136 undef = Value.pointer (some ⟨q, 2, none⟩) := inv.done 2 _ 136 rfl rfl rfl
                have q137 : a'.tmps.getD 137 undef = Value.slice (some a5) N5 c5 := inv.done 3 _ 137 rfl rfl rfl
                have q138 : a'.tmps.getD 138 undef = Value.int IntKind.i64 (k : Int) := inv.done 4 _ 138 rfl rfl rfl
                have q139 : a'.tmps.getD 139 undef = pv q := inv.done 5 _ 139 rfl rfl rfl
                have q140 : a'.tmps.getD 140 undef = pv q := inv.done 6 _ 140 rfl rfl rfl
                have q141 : a'.tmps.getD 141 undef = Value.pointer (some ⟨q, 0, none⟩) := inv.done 7 _ 141 rfl rfl rfl
                have q142 : a'.tmps.getD 142 undef = Value.slice (some rb) NR rc := inv.done 8 _ 142 rfl rfl rfl
                have q143 : a'.tmps.getD 143 undef = Value.int IntKind.i64 (j : Int) := inv.done 9 _ 143 rfl rfl rfl
                have q144 : a'.tmps.getD 144 undef = Value.pointer (some (rb.add (j * 2))) := inv.done 10 _ 144 rfl rfl rfl
                have q145 : a'.tmps.getD 145 undef = Value.pointer (some ⟨(rb.add (j * 2)).block, (rb.add (j * 2)).off + 1, none⟩) := inv.done 11 _ 145 rfl rfl rfl
                have q146 : a'.tmps.getD 146 undef = vU y2 := inv.done 12 _ 146 rfl rfl rfl
                have q147 : a'.tmps.getD 147 undef = Value.pointer (some (a5.add (k * 2))) := inv.done 13 _ 147 rfl rfl rfl
                have q148 : a'.tmps.getD 148 undef = Value.pointer (some ⟨(a5.add (k * 2)).block, (a5.add (k * 2)).off + 1, none⟩) := inv.done 14 _ 148 rfl rfl rfl
                clear inv
                simp only [List.filterMap_cons, List.filterMap_nil, Par.putAll, Act.put, List.setIfInBounds_toArray, List.set_cons_succ, List.set_cons_zero, q134, q135, q136, q137, q138, q139, q140, q141, q142, q143, q144, q145, q146, q147, q148]
                clear q134 q135 q136 q137 q138 q139 q140 q141 q142 q143 q144 q145 q146 q147 q148
                obtain ⟨-, hrd, hf⟩ := Rg.Ch.fin hR (by decide) 1 rfl; have HRD := hid hrd; have HF7 := hid hf; clear hrd hf hR
                try clear a'
                have HM5 : Hid (m + 1 = ((tk s.rows p0 n (j + 1)).map Prod.fst).length) := hid (by rw [HTK.out, List.map_append, List.length_append, ← HM.out]; rfl)
                have HO5 : Hid (w'.ownsRow w.heap.size 29 1 (.slice ao2 (m + 1) cap2) ((tk s.rows p0 n (j + 1)).map Prod.fst).length (((tk s.rows p0 n (j + 1)).map Prod.fst).map uv)) := hid (by
                  rw [← HM5.out, HTK.out, List.map_append]
                  exact ownsRow_fr HO4.out HF7.out (fun b hb hm => HD4.out.noU HO4.out b hb (by simp at hm; subst hm; rw [HAG.out]; simp [oB, Value.ownBlock])))
                have HD5 : Hid (RDD B w' q (.slice (some rb) NR rc) (.slice (some a5) N5 c5) { s with seen := A ++ (x, lastP p0 (tk s.rows p0 n (j + 1))) :: C }) := hid (by rw [HTK.out, lastP_app]; exact HRD.out)
                have HF8 := hid (fr_add HF4b.out HF7.out (fun b hb => by simp at hb; subst hb; exact HG5.out))
                clear HRD HF7 HO4 HD4 HF4b
                go_wp2
                go_roundw
                case rel => exact ⟨j + 1, m + 1, ao2, cap2, by omega, by go_num, rfl, HM5, HO5, HD5, HF8⟩
                case measure =>
                  show NR - ((j : Int) + 1).toNat < NR - ((j : Int)).toNat
                  omega
              · have hmb : decide ((m : Int) < n) = false := by simpa using hmn
                have HTK : Hid (tk s.rows p0 n (j + 1) = tk s.rows p0 n j) := hid (by
                  obtain ⟨hj2, e⟩ := HY.out
                  exact tk_keep hj2 (fun h => hmn (by have := HM.out; rw [List.length_map] at this; rw [this]; exact h.2)))
                clear hmn
                go_wp2
                go_roundw
                case rel => exact ⟨j + 1, m, oo, oc, by omega, by go_num, rfl, hid (by rw [HTK.out]; exact HM.out), hid (by rw [HTK.out]; exact HO.out), hid (by rw [HTK.out]; exact HD.out), HF⟩
                case measure =>
                  show NR - ((j : Int) + 1).toNat < NR - ((j : Int)).toNat
                  omega
            · have hpb : decide (p0.toNat < y2.toNat) = false := by rw [UInt64.lt_iff_toNat_lt] at hp; simpa using hp
              have HTK : Hid (tk s.rows p0 n (j + 1) = tk s.rows p0 n j) := hid (by
                obtain ⟨hj2, e⟩ := HY.out
                exact tk_keep hj2 (fun h => hp (by have := h.1; rw [e] at this; exact this)))
              clear hp
              go_wp2
              go_roundw
              case rel => exact ⟨j + 1, m, oo, oc, by omega, by go_num, rfl, hid (by rw [HTK.out]; exact HM.out), hid (by rw [HTK.out]; exact HO.out), hid (by rw [HTK.out]; exact HD.out), HF⟩
              case measure =>
                show NR - ((j : Int) + 1).toNat < NR - ((j : Int)).toNat
                omega
          · obtain rfl : j = NR := by omega
            have hjf : decide ((j : Int) < (j : Int)) = false := by simp
            go_wp2
            go_returns
            have hrs := HRS.out
            rw [HNR.out] at hrs
            unfold NxtR
            rw [hrs]
            exact ⟨⟨_, rfl, HO.out⟩, ⟨_, _, HD.out⟩, HF.out⟩
    · obtain rfl : k = N := by omega
      have HNA := hid (next_at HW.out HRB.out (k := k) (by rw [HN.out]; exact Nat.le_refl _) HL.out (fun hj => absurd hj (by rw [HN.out]; omega)))
      have hke : ((k : Int) == (k : Int)) = true := by simp
      have HNB2 := hid (HNA.out.1 (fun hj => absurd hj (by rw [HN.out]; omega)))
      have HE3 := HE
      have H4 := hid (H.out.ext (HE2.out.trans HE3.out))
      have HF4 : Hid (Fr S0 w wr) := hid (Ext.fr (HE2.out.trans HE3.out))
      obtain ⟨-, -, cc2, -⟩ := lk3 H3.out.hd
      by_cases h8 : 8 ≤ k
      · have h8' : decide ((8 : Int) ≤ (k : Int)) = true := by simp; omega
        have HRE : Hid (R = ([], 4, s)) := hid (by rw [← HRR.out]; exact nextD_full HX.out (by have := HNB.out; omega) HRB.out HNB2.out.1 (by rw [HN.out]; exact h8))
        clear h8
        go_wp2
        go_returns
        unfold NxtR
        rw [HRE.out]
        exact ⟨⟨_, rfl, World.ownsRow_nil _ _ _ _⟩, ⟨_, _, H4.out⟩, HF4.out⟩
      have h8' : decide ((8 : Int) ≤ (k : Int)) = false := by simp; omega
      have H8 := hid h8
      clear h8
      go_wp2_with fail
      have HRS0 : Hid (R = ((tk s.rows 0 n s.rows.length).map Prod.fst, 0, { s with seen := s.seen.take k ++ (x, lastP 0 (tk s.rows 0 n s.rows.length)) :: s.seen.drop k })) := hid (by
        rw [← HRR.out]
        exact nextD_ok HX.out (by have := HNB.out; omega) HRB.out (by rw [HN.out, decide_eq_false (by exact H8.out), Bool.and_false]) (by rw [HNB2.out.1]; rfl) HNB2.out.2)
      have HSA : Hid (SlC wr (.slice so k cap) (s.seen.take k)) := hid (SlC.take (by have := Sl.of_owns H4.out.ss; unfold SlC; rw [HN.out] at this ⊢; exact this) HN.out k HK.out)
      have HSC : Hid (∀ (ao' : Option Addr) (kk c : Nat), (ao' = if cap = k then so else (so : Option Addr).map (·.add (k * 2))) → kk = k - k → c = cap - k → SlC wr (.slice ao' kk c) (s.seen.drop k)) := hid (fun ao' kk c e1 e2 e3 => SlC.drop (by have := Sl.of_owns H4.out.ss; unfold SlC; rw [HN.out] at this ⊢; exact this) HN.out k HK.out ao' e1 kk c e2 e3)
      have HKA0 : Hid ((s.seen.take k).length = k) := hid (by rw [List.length_take, HN.out]; have := HK.out; omega)
      have HCL0 : Hid ((s.seen.drop k).length ≤ 8) := hid (by rw [List.length_drop]; have := HW.out.s8; omega)
      obtain ⟨A, hA⟩ : ∃ A, s.seen.take k = A := ⟨_, rfl⟩
      obtain ⟨C, hC⟩ : ∃ C, s.seen.drop k = C := ⟨_, rfl⟩
      rw [hA] at HSA HKA0 HRS0
      rw [hC] at HSC HCL0 HRS0
      clear hA hC h8'
      have HC2 := hid cc2
      clear cc2
      refine ParE.wp_region_e (l := [_, _, _, _, _, _, _, _, _, _, _, _, _, _, _, _, _, _, _, _, _, _, _]) rfl (Rg.Mx wr 22 [(1, 68, 8), (8, 75, 12), (11, 78, 12), (12, 79, 19), (19, 86, 22)] (NxQ wr x A C) (fun w' => ∃ vs', RDD B w' q (.slice ro NR rc) vs' { s with seen := A ++ List.cons (x, 0) C } ∧ Fr [q] wr w' ∧ ∀ b ∈ oB vs', wr.heap.size ≤ b)) (ParC.VC [ParC.EQ (pv q), (fun _ => True), ParC.EQ (pv q), ParC.EQ (pv q), ParC.EQ (Value.pointer (some ⟨q, 2, none⟩)), ParC.EQ (Value.slice so k cap), ParC.EQ (Value.int IntKind.i64 (k : Int)), (fun v => ∃ c : Option Addr × Nat × Nat, v = Value.slice c.1 c.2.1 c.2.2 ∧ SlC wr v A), (fun _ => True), ParC.EQ (vN x), ParC.EQ (Value.agg #[vN x, .int .u64 0]), (fun _ => True), (fun _ => True), ParC.EQ (pv q), ParC.EQ (pv q), ParC.EQ (Value.pointer (some ⟨q, 2, none⟩)), ParC.EQ (Value.slice so k cap), ParC.EQ (Value.int IntKind.i64 (k : Int)), (fun v => ∃ c : Option Addr × Nat × Nat, v = Value.slice c.1 c.2.1 c.2.2 ∧ SlC wr v C), (fun _ => True), ParC.EQ (pv q), ParC.EQ (Value.pointer (some ⟨q, 2, none⟩)), fun _ => True]) (by kernel_rfl) (by kernel_rfl) (Rg.Mx.start NxQ.st) ?_ ?_
      · refine ⟨fun L ρ w' hR hC hL hd hk => ?_, ?_⟩
        · exact Par.val_of_run rfl ⟨hR.other (by decide), hk.1⟩
        refine ⟨fun L ρ w' hR hC hL hd hk => ?_, ?_⟩
        · obtain ⟨-⟩ := hk
          skip
          refine Par.val_k fun K hK => ?_
          unfold Par.val
          (have hz := hC.notyet 22 1 hL (by kernel_rfl); have hx := hR.a hz; go_simp; exact hK _ _ ⟨hR.grow hz (by decide) (Ext.alloc _ _) ⟨w'.heap.size, rfl, heap_alloc_new w' _, hx.size⟩, trivial⟩)
        refine ⟨fun L ρ w' hR hC hL hd hk => ?_, ?_⟩
        · exact Par.val_of_run rfl ⟨hR.other (by decide), hk.1⟩
        refine ⟨fun L ρ w' hR hC hL hd hk => ?_, ?_⟩
        · obtain ⟨k0, -⟩ := hk
          have e0 : ρ (.tmp 69) = pv q := k0
          clear k0
          refine Par.val_k fun K hK => ?_
          unfold Par.val
          (go_simp; exact hK _ _ ⟨hR.other (by decide), rfl⟩)
        refine ⟨fun L ρ w' hR hC hL hd hk => ?_, ?_⟩
        · obtain ⟨k0, -⟩ := hk
          have e0 : ρ (.tmp 70) = pv q := k0
          clear k0
          refine Par.val_k fun K hK => ?_
          unfold Par.val
          (go_simp; exact hK _ _ ⟨hR.other (by decide), rfl⟩)
        refine ⟨fun L ρ w' hR hC hL hd hk => ?_, ?_⟩
        · obtain ⟨k0, -⟩ := hk
          have e0 : ρ (.tmp 71) = Value.pointer (some ⟨q, 2, none⟩) := k0
          clear k0
          refine Par.val_k fun K hK => ?_
          unfold Par.val
          (have hx := hR.a (hC.notyet 22 5 hL (by kernel_rfl)); have cc := hx.cell HC2.out; go_simp; exact hK _ _ ⟨hR.other (by decide), rfl⟩)
        refine ⟨fun L ρ w' hR hC hL hd hk => ?_, ?_⟩
        · exact Par.val_of_run rfl ⟨hR.other (by decide), hk.1⟩
        refine ⟨fun L ρ w' hR hC hL hd hk => ?_, ?_⟩
        · obtain ⟨k0, k1, -⟩ := hk
          have e0 : ρ (.tmp 72) = Value.slice so k cap := k0
          have e1 : ρ (.tmp 73) = Value.int IntKind.i64 (k : Int) := k1
          clear k0 k1
          refine Par.val_k fun K hK => ?_
          unfold Par.val
          (have hk9 : k ≤ cap := (by have := HK.out; omega); go_simp; exact hK _ _ ⟨hR.other (by decide), ⟨(_, _, _), rfl, HSA.out⟩⟩)
        refine ⟨fun L ρ w' hR hC hL hd hk => ?_, ?_⟩
        · obtain ⟨k0, k1, -⟩ := hk
          have e0 : (fun _ => True) (ρ (.tmp 68))  := k0
          have e1 : (fun v => ∃ c : Option Addr × Nat × Nat, v = Value.slice c.1 c.2.1 c.2.2 ∧ SlC wr v A) (ρ (.tmp 74))  := k1
          clear k0 k1
          refine Par.val_k fun K hK => ?_
          unfold Par.val
          (have hz := hC.notyet 22 8 hL (by kernel_rfl); have hx := hR.a hz; obtain ⟨g, eg, hg, hgl⟩ : NxQ wr x A C 68 (ρ (.tmp 68)) w' := hR.get 1 68 8 (by decide) (hC.before 1 (i := 8) rfl hd (by kernel_rfl)) hL; obtain ⟨c74, e74, hsl⟩ := e1; obtain ⟨a9, c9, w9, r1, r2, r3, r4⟩ := run_append_sl (P := Tryd.prog) wr.heap.size 30 30 52 Tryd.underlying30 infoRC rfl (by decide) (emp_own hg hgl) (Sl.ext hsl hx) (encC_one _) (by have := HKA0.out; have := HK.out; have := H8.out; simp [maxLen]; omega) (by have := HKA0.out; have := HK.out; have := H8.out; omega) hx.size; rw [← eg] at r1; have hfr := fr_grown r3 r4; exact Par.val_append r1 (hK _ _ ⟨hR.app [] [12, 19] [(11, 78, 12)] hz (by simp) (by simp; exact ⟨hC.notyet 12 8 hL (by kernel_rfl), hC.notyet 19 8 hL (by kernel_rfl)⟩) (by decide) (by intro y hy; simp at hy; subst hy; rintro ⟨g2, eg2, hg2⟩; refine ⟨g2, eg2, fr_at hfr hg2 (fun hm => ?_)⟩; simp [oB, Value.ownBlock] at hm; subst hm; rw [hg] at hg2; cases hg2) (Below.trans hx r4) (by show World.ownsRow _ _ _ _ _ _ _; simpa using r2), trivial⟩))
        refine ⟨fun L ρ w' hR hC hL hd hk => ?_, ?_⟩
        · exact Par.val_of_run rfl ⟨hR.other (by decide), hk.1⟩
        refine ⟨fun L ρ w' hR hC hL hd hk => ?_, ?_⟩
        · obtain ⟨k0, k1, -⟩ := hk
          have e0 : ρ (.tmp 76) = vN x := k0
          have e1 : ρ (Operand.const (Value.int IntKind.u64 0)) = (Value.int IntKind.u64 0) := k1
          clear k0 k1
          refine Par.val_k fun K hK => ?_
          unfold Par.val
          (go_simp; exact hK _ _ ⟨hR.other (by decide), rfl⟩)
        refine ⟨fun L ρ w' hR hC hL hd hk => ?_, ?_⟩
        · obtain ⟨k0, -⟩ := hk
          have e0 : ρ (.tmp 77) = Value.agg #[vN x, .int .u64 0] := k0
          clear k0
          refine Par.val_k fun K hK => ?_
          unfold Par.val
          (have hz := hC.notyet 22 11 hL (by kernel_rfl); have hx := hR.a hz; go_simp; exact hK _ _ ⟨hR.grow hz (by decide) (Ext.alloc _ _) ⟨w'.heap.size, rfl, heap_alloc_new w' _⟩, trivial⟩)
        refine ⟨fun L ρ w' hR hC hL hd hk => ?_, ?_⟩
        · obtain ⟨k0, k1, -⟩ := hk
          have e0 : (fun _ => True) (ρ (.tmp 75))  := k0
          have e1 : (fun _ => True) (ρ (.tmp 78))  := k1
          clear k0 k1
          refine Par.val_k fun K hK => ?_
          unfold Par.val
          (have hz := hC.notyet 22 12 hL (by kernel_rfl); have hx := hR.a hz; have h75 : NxQ wr x A C 75 (ρ (.tmp 75)) w' := hR.get 8 75 12 (by decide) (hC.before 8 (i := 12) rfl hd (by kernel_rfl)) hL; obtain ⟨g, eg, hg⟩ : NxQ wr x A C 78 (ρ (.tmp 78)) w' := hR.get 11 78 12 (by decide) (hC.before 11 (i := 12) rfl hd (by kernel_rfl)) hL; obtain ⟨a9, c9, w9, r1, r2, r3, r4⟩ := run_append_sl (P := Tryd.prog) wr.heap.size 30 30 52 Tryd.underlying30 infoRC rfl (by decide) h75 (cur_at hg) (by intro y hy; simp at hy; rcases hy with rfl | rfl <;> rfl) (by have := HKA0.out; have := HK.out; have := H8.out; simp [maxLen]; omega) (by have := HKA0.out; have := HK.out; have := H8.out; omega) hx.size; rw [← eg] at r1; exact Par.val_append r1 (hK _ _ ⟨hR.app [8] [19] [] hz (by simp; exact hC.before 8 (i := 12) rfl hd (by kernel_rfl)) (by simp; exact hC.notyet 19 12 hL (by kernel_rfl)) (by decide) (by simp) (Below.trans hx r4) r2, trivial⟩))
        refine ⟨fun L ρ w' hR hC hL hd hk => ?_, ?_⟩
        · exact Par.val_of_run rfl ⟨hR.other (by decide), hk.1⟩
        refine ⟨fun L ρ w' hR hC hL hd hk => ?_, ?_⟩
        · obtain ⟨k0, -⟩ := hk
          have e0 : ρ (.tmp 80) = pv q := k0
          clear k0
          refine Par.val_k fun K hK => ?_
          unfold Par.val
          (go_simp; exact hK _ _ ⟨hR.other (by decide), rfl⟩)
        refine ⟨fun L ρ w' hR hC hL hd hk => ?_, ?_⟩
        · obtain ⟨k0, -⟩ := hk
          have e0 : ρ (.tmp 81) = pv q := k0
          clear k0
          refine Par.val_k fun K hK => ?_
          unfold Par.val
          (go_simp; exact hK _ _ ⟨hR.other (by decide), rfl⟩)
        refine ⟨fun L ρ w' hR hC hL hd hk => ?_, ?_⟩
        · obtain ⟨k0, -⟩ := hk
          have e0 : ρ (.tmp 82) = Value.pointer (some ⟨q, 2, none⟩) := k0
          clear k0
          refine Par.val_k fun K hK => ?_
          unfold Par.val
          (have hx := hR.a (hC.notyet 22 16 hL (by kernel_rfl)); have cc := hx.cell HC2.out; go_simp; exact hK _ _ ⟨hR.other (by decide), rfl⟩)
        refine ⟨fun L ρ w' hR hC hL hd hk => ?_, ?_⟩
        · exact Par.val_of_run rfl ⟨hR.other (by decide), hk.1⟩
        refine ⟨fun L ρ w' hR hC hL hd hk => ?_, ?_⟩
        · obtain ⟨k0, k1, -⟩ := hk
          have e0 : ρ (.tmp 83) = Value.slice so k cap := k0
          have e1 : ρ (.tmp 84) = Value.int IntKind.i64 (k : Int) := k1
          clear k0 k1
          refine Par.val_k fun K hK => ?_
          unfold Par.val
          (have hk9 : k ≤ cap := (by have := HK.out; omega); go_simp; exact hK _ _ ⟨hR.other (by decide), ⟨(_, _, _), rfl, HSC.out _ _ _ (by first | rfl | (rw [if_neg (by omega)]; rfl) | simp) (by omega) (by omega)⟩⟩)
        refine ⟨fun L ρ w' hR hC hL hd hk => ?_, ?_⟩
        · obtain ⟨k0, k1, -⟩ := hk
          have e0 : (fun _ => True) (ρ (.tmp 79))  := k0
          have e1 : (fun v => ∃ c : Option Addr × Nat × Nat, v = Value.slice c.1 c.2.1 c.2.2 ∧ SlC wr v C) (ρ (.tmp 85))  := k1
          clear k0 k1
          refine Par.val_k fun K hK => ?_
          unfold Par.val
          (have hz := hC.notyet 22 19 hL (by kernel_rfl); have hx := hR.a hz; have h79 : NxQ wr x A C 79 (ρ (.tmp 79)) w' := hR.get 12 79 19 (by decide) (hC.before 12 (i := 19) rfl hd (by kernel_rfl)) hL; obtain ⟨c85, e85, hsl⟩ := e1; obtain ⟨a9, c9, w9, r1, r2, r3, r4⟩ := run_append_sl (P := Tryd.prog) wr.heap.size 30 30 52 Tryd.underlying30 infoRC rfl (by decide) h79 (Sl.ext hsl hx) (encC_one _) (by have := HKA0.out; have := HK.out; have := H8.out; have := HCL0.out; simp [maxLen]; omega) (by have := HKA0.out; have := HK.out; have := H8.out; have := HCL0.out; omega) hx.size; have e3 : (A ++ List.cons (x, 0) C).length = A.length + 1 + C.length := (by simp; omega); have e4 : (A ++ List.cons (x, 0) C).flatMap encC = A.flatMap encC ++ encC (x, 0) ++ C.flatMap encC := (by simp); exact Par.val_append r1 (hK _ _ ⟨hR.app [8, 12] [] [] hz (by simp; exact ⟨hC.before 8 (i := 19) rfl hd (by kernel_rfl), hC.before 12 (i := 19) rfl hd (by kernel_rfl)⟩) (by simp) (by decide) (by simp) (Below.trans hx r4) (by show World.ownsRow _ _ _ _ _ _ _; rw [e3, e4]; exact r2), trivial⟩))
        refine ⟨fun L ρ w' hR hC hL hd hk => ?_, ?_⟩
        · obtain ⟨k0, -⟩ := hk
          have e0 : ρ (.tmp 67) = pv q := k0
          clear k0
          refine Par.val_k fun K hK => ?_
          unfold Par.val
          (go_simp; exact hK _ _ ⟨hR.other (by decide), rfl⟩)
        refine ⟨fun L ρ w' hR hC hL hd hk => ?_, ?_⟩
        · obtain ⟨k0, -⟩ := hk
          have e0 : ρ (.tmp 87) = pv q := k0
          clear k0
          refine Par.val_k fun K hK => ?_
          unfold Par.val
          (go_simp; exact hK _ _ ⟨hR.other (by decide), rfl⟩)
        refine ⟨fun L ρ w' hR hC hL hd hk => ?_, ?_⟩
        · obtain ⟨k0, k1, -⟩ := hk
          have e0 : ρ (.tmp 88) = Value.pointer (some ⟨q, 2, none⟩) := k0
          have e1 : (fun _ => True) (ρ (.tmp 86))  := k1
          clear k0 k1
          refine Par.val_k fun K hK => ?_
          unfold Par.val
          (have hx := hR.a hL; have h86 : NxQ wr x A C 86 (ρ (.tmp 86)) w' := hR.get 19 86 22 (by decide) (hC.before 19 (i := 22) rfl hd (by kernel_rfl)) hL; have hr := H4.out.ext hx; obtain ⟨-, -, cc, ff⟩ := lk3 hr.hd; have f2 := ff 2; obtain ⟨o6, c6, h6⟩ := row_shape h86; have hset := block_set hr.hd 2 (ρ (.tmp 86)); have hfs : Fr [q] w' (w'.setCell ⟨q, 2, none⟩ (ρ (.tmp 86))) := fr_setCell _ _ _ (by simp); have hres := hid (show ∃ vs', RDD B (w'.setCell ⟨q, 2, none⟩ (ρ (.tmp 86))) q (.slice ro NR rc) vs' { s with seen := A ++ List.cons (x, 0) C } ∧ Fr [q] wr (w'.setCell ⟨q, 2, none⟩ (ρ (.tmp 86))) ∧ ∀ b ∈ oB vs', wr.heap.size ≤ b from ⟨ρ (.tmp 86), ⟨hset, ownsRow_fr hr.rr hfs (fun b hb hm => hr.sepR b hb (by simp at hm; simp [hm])), ownsRow_fr (owns_mono h86 (Nat.le_trans HB.out (HE2.out.trans HE3.out).size)) hfs (fun b hb hm => by have := row_lo h86 b hb; have h3 := (Array.getElem?_eq_some_iff.1 H4.out.hd).1; simp at hm; omega), hr.lo⟩, (Ext.fr hx).trans hfs, row_lo h86⟩); clear hset hfs h86 hr ff; obtain ⟨v86, e86⟩ : ∃ v, ρ (.tmp 86) = v := ⟨_, rfl⟩; obtain ⟨N6, hN6⟩ : ∃ N6, (A ++ List.cons (x, (0 : UInt64)) C).length = N6 := ⟨_, rfl⟩; rw [hN6] at h6; rw [e86] at h6 hres; have e9 : ρ (.tmp 86) = .slice o6 N6 c6 := (by rw [e86]; exact h6); subst h6; clear hN6; go_simp; exact hK _ _ ⟨hR.last [8, 12, 19] (by simp; exact ⟨hC.before 8 (i := 22) rfl hd (by kernel_rfl), hC.before 12 (i := 22) rfl hd (by kernel_rfl), hC.before 19 (i := 22) rfl hd (by kernel_rfl)⟩) (by decide) hres.out, trivial⟩)
        trivial
      intro a' w' inv hR
      have q67 : a'.tmps.getD 67 undef = pv q := inv.done 0 _ 67 rfl rfl rfl
      have q68 : (fun _ => True) (a'.tmps.getD 68 undef)  := inv.done 1 _ 68 rfl rfl rfl
      have q69 : a'.tmps.getD 69 undef = pv q := inv.done 2 _ 69 rfl rfl rfl
      have q70 : a'.tmps.getD 70 undef = pv q := inv.done 3 _ 70 rfl rfl rfl
      have q71 : a'.tmps.getD 71 undef = Value.pointer (some ⟨q, 2, none⟩) := inv.done 4 _ 71 rfl rfl rfl
      have q72 : a'.tmps.getD 72 undef = Value.slice so k cap := inv.done 5 _ 72 rfl rfl rfl
      have q73 : a'.tmps.getD 73 undef = Value.int IntKind.i64 (k : Int) := inv.done 6 _ 73 rfl rfl rfl
      have q74 : (fun v => ∃ c : Option Addr × Nat × Nat, v = Value.slice c.1 c.2.1 c.2.2 ∧ SlC wr v A) (a'.tmps.getD 74 undef)  := inv.done 7 _ 74 rfl rfl rfl
      have q75 : (fun _ => True) (a'.tmps.getD 75 undef)  := inv.done 8 _ 75 rfl rfl rfl
      have q76 : a'.tmps.getD 76 undef = vN x := inv.done 9 _ 76 rfl rfl rfl
      have q77 : a'.tmps.getD 77 undef = Value.agg #[vN x, .int .u64 0] := inv.done 10 _ 77 rfl rfl rfl
      have q78 : (fun _ => True) (a'.tmps.getD 78 undef)  := inv.done 11 _ 78 rfl rfl rfl
      have q79 : (fun _ => True) (a'.tmps.getD 79 undef)  := inv.done 12 _ 79 rfl rfl rfl
      have q80 : a'.tmps.getD 80 undef = pv q := inv.done 13 _ 80 rfl rfl rfl
      have q81 : a'.tmps.getD 81 undef = pv q := inv.done 14 _ 81 rfl rfl rfl
      have q82 : a'.tmps.getD 82 undef = Value.pointer (some ⟨q, 2, none⟩) := inv.done 15 _ 82 rfl rfl rfl
      have q83 : a'.tmps.getD 83 undef = Value.slice so k cap := inv.done 16 _ 83 rfl rfl rfl
      have q84 : a'.tmps.getD 84 undef = Value.int IntKind.i64 (k : Int) := inv.done 17 _ 84 rfl rfl rfl
      have q85 : (fun v => ∃ c : Option Addr × Nat × Nat, v = Value.slice c.1 c.2.1 c.2.2 ∧ SlC wr v C) (a'.tmps.getD 85 undef)  := inv.done 18 _ 85 rfl rfl rfl
      have q86 : (fun _ => True) (a'.tmps.getD 86 undef)  := inv.done 19 _ 86 rfl rfl rfl
      have q87 : a'.tmps.getD 87 undef = pv q := inv.done 20 _ 87 rfl rfl rfl
      have q88 : a'.tmps.getD 88 undef = Value.pointer (some ⟨q, 2, none⟩) := inv.done 21 _ 88 rfl rfl rfl
      clear inv
      simp only [List.filterMap_cons, List.filterMap_nil, Par.putAll, Act.put, List.setIfInBounds_toArray, List.set_cons_succ, List.set_cons_zero, q67, q69, q70, q71, q72, q73, q76, q77, q80, q81, q82, q83, q84, q87, q88]
      clear q67 q69 q70 q71 q72 q73 q76 q77 q80 q81 q82 q83 q84 q87 q88
      have hfin := Rg.Mx.fin hR (by decide); have HFIN := hid hfin; clear hfin hR
      generalize a'.tmps.getD 68 undef = u68 at *
      generalize a'.tmps.getD 74 undef = u74 at *
      generalize a'.tmps.getD 75 undef = u75 at *
      generalize a'.tmps.getD 78 undef = u78 at *
      generalize a'.tmps.getD 79 undef = u79 at *
      generalize a'.tmps.getD 85 undef = u85 at *
      generalize a'.tmps.getD 86 undef = u86 at *
      try clear a'
      obtain ⟨vs5, hr5, hf5, hob5⟩ := HFIN.out
      obtain ⟨N5, hN5⟩ : ∃ N, (A ++ (x, (0 : UInt64)) :: C).length = N := ⟨_, rfl⟩
      obtain ⟨g5, c5, hv5, hc5, hc6, -⟩ := row_open hr5.ss (by show 0 < (A ++ (x, 0) :: C).length; simp; omega)
      dsimp only at hv5 hc5
      rw [hN5] at hv5 hc5
      subst hv5
      have hk5 : (k : Int) < N5 := by have := HKA0.out; rw [← hN5]; simp; omega
      obtain ⟨a5, ha5⟩ : ∃ a, (⟨g5, 0, none⟩ : Addr) = a := ⟨_, rfl⟩
      rw [ha5] at hr5
      have HAG := hid ha5.symm
      have HG5 : Hid (g5 ∈ S0 ∨ w.heap.size ≤ g5) := hid (.inr (Nat.le_trans (HE2.out.trans HE3.out).size (hob5 g5 (by simp [oB, Value.ownBlock]))))
      obtain ⟨p0, hp0⟩ : ∃ p : UInt64, (0 : UInt64) = p := ⟨_, rfl⟩
      rw [hp0] at hr5
      have HR5 := hid hr5
      have HRS : Hid (R = ((tk s.rows p0 n s.rows.length).map Prod.fst, 0, { s with seen := A ++ (x, lastP p0 (tk s.rows p0 n s.rows.length)) :: C })) := hid (by have := HRS0.out; rw [hp0] at this; exact this)
      have HF5 : Hid (Fr S0 w w') := hid (HF4.out.trans (hf5.mono (by intro y hy; simp at hy; rw [← HS0.out]; simp [hy])))
      clear hr5 hf5 hob5 hN5 ha5 hp0 HFIN HRS0 HSA HSC
      generalize w' = W5 at *
      have HC0 : Hid (∀ o, (W5.alloc o).cell? ⟨q, 2, none⟩ = some (.slice (some a5) N5 c5)) := hid (fun o => (Ext.alloc _ o).cell (lk3 HR5.out.hd).2.2.1)
      have HC1 : Hid (∀ o, (W5.alloc o).cell? ⟨(a5.add (k * 2)).block, (a5.add (k * 2)).off + 1, none⟩ = some (vU p0)) := hid (fun o => (Ext.alloc _ o).cell (by
        have := HR5.out
        rw [HAG.out] at this ⊢
        have h9 := this.pl.1
        rw [HKA0.out] at h9
        rw [addr0]; exact h9))
      have hc0 := HC0.out
      have hc1 := HC1.out
      have HO6 : Hid ((W5.alloc (.cells #[] 29)).ownsRow w.heap.size 29 1 (.slice (some ⟨W5.heap.size, 0, none⟩) 0 0) 0 []) := hid (owns_mono (World.ownsRow_lit (base := W5.heap.size) (e := 29) (size := 1) W5 #[] 0 (Nat.le_refl _) (by simp [maxLen]) (by simp)) HF5.out.size)
      have HR6 := hid (HR5.out.ext (Ext.alloc W5 (.cells #[] 29)))
      have HF6 := hid (HF5.out.trans (Ext.fr (S := S0) (Ext.alloc W5 (.cells #[] 29))))
      clear HC0 HC1 HF5
      go_wp2
      clear hc0 hc1 HR5
      go_loopw [9, 11] (fun ov iv wr => ∃ (j m : Nat) (oo : Option Addr) (oc : Nat), j ≤ NR ∧ iv = .int .i64 (j : Int) ∧ ov = .slice oo m oc ∧ Hid (m = ((tk s.rows p0 n j).map Prod.fst).length) ∧ Hid (wr.ownsRow w.heap.size 29 1 (.slice oo m oc) ((tk s.rows p0 n j).map Prod.fst).length (((tk s.rows p0 n j).map Prod.fst).map uv)) ∧ Hid (RDD B wr q (.slice ro NR rc) (.slice (some a5) N5 c5) { s with seen := A ++ (x, lastP p0 (tk s.rows p0 n j)) :: C }) ∧ Hid (Fr S0 w wr)) (fun _ iv _ => NR - (intOf iv).toNat)
      case atStart => exact ⟨0, 0, _, _, by omega, rfl, rfl, hid (by rw [tk_zero]; rfl), hid (by rw [tk_zero]; exact HO6.out), hid (by rw [tk_zero, lastP_nil]; exact HR6.out), HF6⟩
      case round =>
        clear HO6 HR6 HF6
        obtain ⟨j, m, oo, oc, hj, rfl, rfl, HM, HO, HD, HF⟩ := hrel
        obtain ⟨d0, -, d2, -⟩ := lk3 HD.out.hd
        by_cases hjl : j < NR
        · have hji : decide ((j : Int) < (NR : Int)) = true := by simp; omega
          have hjr : j < s.rows.length := by rw [HNR.out]; exact hjl
          have hsl := Sl.of_owns HD.out.rr
          dsimp only at hsl
          rw [HNR.out] at hsl
          obtain ⟨hle2, hm2, hz2, hc2⟩ := Sl.cells hsl
          have hmm2 : rc ≤ 9223372036854775807 := by simpa [maxLen] using hm2
          obtain ⟨rb, rfl⟩ : ∃ a, ro = some a := by
            cases ro with
            | none => have := hz2 rfl; omega
            | some a => exact ⟨a, rfl⟩
          obtain ⟨g0, g1⟩ := flat2_get (A := fun z : UInt64 × UInt64 => vU z.1) (Bf := fun z => vU z.2) s.rows j hjr
          have t0 := cell_first (i := j * 2) (hc2 rb rfl _ _ g0)
          have t1 := cell_next (i := j * 2) (j := 1) (hc2 rb rfl _ _ g1) (by decide)
          obtain ⟨y, hy⟩ : ∃ y, s.rows[j] = y := ⟨_, rfl⟩
          have HY : Hid (∃ h : j < s.rows.length, s.rows[j] = y) := hid ⟨hjr, hy⟩
          rw [hy] at t0 t1
          obtain ⟨y1, y2⟩ := y
          clear g0 g1 hy hsl hm2 hz2 hc2 hjr
          by_cases hp : p0 < y2
          · have hpb : decide (p0.toNat < y2.toNat) = true := by rw [UInt64.lt_iff_toNat_lt] at hp; simpa using hp
            have HP := hid hp
            clear hp
            by_cases hmn : (m : Int) < n
            · have hmb : decide ((m : Int) < n) = true := by simpa using hmn
              have HTK : Hid (tk s.rows p0 n (j + 1) = tk s.rows p0 n j ++ [(y1, y2)]) := hid (by
                obtain ⟨hj2, e⟩ := HY.out
                have h1 := tk_more hj2 (pl := p0) (n := n) (by rw [e]; exact HP.out) (by have := HM.out; rw [List.length_map] at this; rw [← this]; exact hmn)
                rw [e] at h1; exact h1)
              have HML : Hid (m ≤ 100000) := hid (by have := tk_len s.rows p0 n j; have := HM.out; rw [List.length_map] at this; have := HLR.out; have := HNR.out; omega)
              have hml := HML.out
              clear hmn
              go_wp2_with (at_builtin; refine wpList_append_ids_at rfl (.tmp 123) (.tmp 132) 35 rfl w.heap.size 29 Tryd.underlying35 infoU64 rfl ((Ext.alloc wr _).owns HO.out) rfl (Vec.one _ _ _ y1 rfl) (m + 1) (by have := HM.out; simp at this ⊢; omega) (by have := HML.out; omega) (Nat.le_trans HF.out.size (by simp)) ?_; intro ao2 cap2 w14 hO hg hat; have HO4 := hid hO; have HD4 := hid ((HD.out.ext (Ext.alloc wr _)).frU ((Ext.alloc wr _).owns HO.out) hg); have HF4b : Hid (Fr S0 w w14) := hid (fr_add (HF.out.trans (Ext.fr (Ext.alloc wr _))) hg (fun b hb => Or.inr (row_lo HO.out b hb))); clear hO hg hat)
              clear t0 t1 d0 d2 hpb hmb hml
              have HT1 : Hid (w14.cell? ⟨(rb.add (j * 2)).block, (rb.add (j * 2)).off + 1, none⟩ = some (vU y2)) := hid (HD4.out.rowAt HY.out HNR.out)
              refine ParE.wp_region_e (l := [_, _, _, _, _, _, _, _, _, _, _, _, _, _, _, _]) rfl (Rg.Ch [15] [] (OneQ w14 fun w' => RDD B w' q (.slice (some rb) NR rc) (.slice (some a5) N5 c5) { s with seen := A ++ List.cons (x, y2) (C) } ∧ Fr [g5] w14 w')) (ParC.VC [ParC.EQ (pv q), ParC.EQ (pv q), ParC.EQ (Value.pointer (some ⟨q, 2, none⟩)), ParC.EQ (Value.slice (some a5) N5 c5), ParC.EQ (Value.int IntKind.i64 (k : Int)), ParC.EQ (pv q), ParC.EQ (pv q), ParC.EQ (Value.pointer (some ⟨q, 0, none⟩)), ParC.EQ (Value.slice (some rb) NR rc), ParC.EQ (Value.int IntKind.i64 (j : Int)), ParC.EQ (Value.pointer (some (rb.add (j * 2)))), ParC.EQ (Value.pointer (some ⟨(rb.add (j * 2)).block, (rb.add (j * 2)).off + 1, none⟩)), ParC.EQ (vU y2), ParC.EQ (Value.pointer (some (a5.add (k * 2)))), ParC.EQ (Value.pointer (some ⟨(a5.add (k * 2)).block, (a5.add (k * 2)).off + 1, none⟩)), fun _ => True]) (by kernel_rfl) (by kernel_rfl) (Rg.Ch.start ⟨fun _ => Ext.draw _, trivial⟩) ?_ ?_
              · refine ⟨fun L ρ w' hR hC hL hd hk => ?_, ?_⟩
                · exact Par.val_of_run rfl ⟨hR.other (by decide), hk.1⟩
                refine ⟨fun L ρ w' hR hC hL hd hk => ?_, ?_⟩
                · obtain ⟨k0, -⟩ := hk
                  have e0 : ρ (.tmp 134) = pv q := k0
                  clear k0
                  refine Par.val_k fun K hK => ?_
                  unfold Par.val
                  (go_simp; exact hK _ _ ⟨hR.other (by decide), rfl⟩)
                refine ⟨fun L ρ w' hR hC hL hd hk => ?_, ?_⟩
                · obtain ⟨k0, -⟩ := hk
                  have e0 : ρ (.tmp 135) = pv q := k0
                  clear k0
                  refine Par.val_k fun K hK => ?_
                  unfold Par.val
                  (go_simp; exact hK _ _ ⟨hR.other (by decide), rfl⟩)
                refine ⟨fun L ρ w' hR hC hL hd hk => ?_, ?_⟩
                · obtain ⟨k0, -⟩ := hk
                  have e0 : ρ (.tmp 136) = Value.pointer (some ⟨q, 2, none⟩) := k0
                  clear k0
                  refine Par.val_k fun K hK => ?_
                  unfold Par.val
                  (obtain ⟨i, hi, hq⟩ := hR.some 0 rfl (hC.notyet 15 3 hL (by kernel_rfl)); have cc := (lk3 (HD4.out.ext (hq.1 (by omega))).hd).2.2.1; go_simp; exact hK _ _ ⟨hR.other (by decide), rfl⟩)
                refine ⟨fun L ρ w' hR hC hL hd hk => ?_, ?_⟩
                · exact Par.val_of_run rfl ⟨hR.other (by decide), hk.1⟩
                refine ⟨fun L ρ w' hR hC hL hd hk => ?_, ?_⟩
                · exact Par.val_of_run rfl ⟨hR.other (by decide), hk.1⟩
                refine ⟨fun L ρ w' hR hC hL hd hk => ?_, ?_⟩
                · obtain ⟨k0, -⟩ := hk
                  have e0 : ρ (.tmp 139) = pv q := k0
                  clear k0
                  refine Par.val_k fun K hK => ?_
                  unfold Par.val
                  (go_simp; exact hK _ _ ⟨hR.other (by decide), rfl⟩)
                refine ⟨fun L ρ w' hR hC hL hd hk => ?_, ?_⟩
                · obtain ⟨k0, -⟩ := hk
                  have e0 : ρ (.tmp 140) = pv q := k0
                  clear k0
                  refine Par.val_k fun K hK => ?_
                  unfold Par.val
                  (go_simp; exact hK _ _ ⟨hR.other (by decide), rfl⟩)
                refine ⟨fun L ρ w' hR hC hL hd hk => ?_, ?_⟩
                · obtain ⟨k0, -⟩ := hk
                  have e0 : ρ (.tmp 141) = Value.pointer (some ⟨q, 0, none⟩) := k0
                  clear k0
                  refine Par.val_k fun K hK => ?_
                  unfold Par.val
                  (obtain ⟨i, hi, hq⟩ := hR.some 0 rfl (hC.notyet 15 8 hL (by kernel_rfl)); have cc := (lk3 (HD4.out.ext (hq.1 (by omega))).hd).1; go_simp; exact hK _ _ ⟨hR.other (by decide), rfl⟩)
                refine ⟨fun L ρ w' hR hC hL hd hk => ?_, ?_⟩
                · exact Par.val_of_run rfl ⟨hR.other (by decide), hk.1⟩
                refine ⟨fun L ρ w' hR hC hL hd hk => ?_, ?_⟩
                · obtain ⟨k0, k1, -⟩ := hk
                  have e0 : ρ (.tmp 142) = Value.slice (some rb) NR rc := k0
                  have e1 : ρ (.tmp 143) = Value.int IntKind.i64 (j : Int) := k1
                  clear k0 k1
                  refine Par.val_k fun K hK => ?_
                  unfold Par.val
                  (go_simp; exact hK _ _ ⟨hR.other (by decide), rfl⟩)
                refine ⟨fun L ρ w' hR hC hL hd hk => ?_, ?_⟩
                · obtain ⟨k0, -⟩ := hk
                  have e0 : ρ (.tmp 144) = Value.pointer (some (rb.add (j * 2))) := k0
                  clear k0
                  refine Par.val_k fun K hK => ?_
                  unfold Par.val
                  (go_simp; exact hK _ _ ⟨hR.other (by decide), rfl⟩)
                refine ⟨fun L ρ w' hR hC hL hd hk => ?_, ?_⟩
                · obtain ⟨k0, -⟩ := hk
                  have e0 : ρ (.tmp 145) = Value.pointer (some ⟨(rb.add (j * 2)).block, (rb.add (j * 2)).off + 1, none⟩) := k0
                  clear k0
                  refine Par.val_k fun K hK => ?_
                  unfold Par.val
                  (obtain ⟨i, hi, hq⟩ := hR.some 0 rfl (hC.notyet 15 12 hL (by kernel_rfl)); have cc := (hq.1 (by omega)).cell HT1.out; go_simp; exact hK _ _ ⟨hR.other (by decide), rfl⟩)
                refine ⟨fun L ρ w' hR hC hL hd hk => ?_, ?_⟩
                · obtain ⟨k0, k1, -⟩ := hk
                  have e0 : ρ (.tmp 137) = Value.slice (some a5) N5 c5 := k0
                  have e1 : ρ (.tmp 138) = Value.int IntKind.i64 (k : Int) := k1
                  clear k0 k1
                  refine Par.val_k fun K hK => ?_
                  unfold Par.val
                  (go_simp; exact hK _ _ ⟨hR.other (by decide), rfl⟩)
                refine ⟨fun L ρ w' hR hC hL hd hk => ?_, ?_⟩
                · obtain ⟨k0, -⟩ := hk
                  have e0 : ρ (.tmp 147) = Value.pointer (some (a5.add (k * 2))) := k0
                  clear k0
                  refine Par.val_k fun K hK => ?_
                  unfold Par.val
                  (go_simp; exact hK _ _ ⟨hR.other (by decide), rfl⟩)
                refine ⟨fun L ρ w' hR hC hL hd hk => ?_, ?_⟩
                · obtain ⟨k0, k1, -⟩ := hk
                  have e0 : ρ (.tmp 148) = Value.pointer (some ⟨(a5.add (k * 2)).block, (a5.add (k * 2)).off + 1, none⟩) := k0
                  have e1 : ρ (.tmp 146) = vU y2 := k1
                  clear k0 k1
                  refine Par.val_k fun K hK => ?_
                  unfold Par.val
                  (obtain ⟨hq, hs⟩ := hR.go 0 rfl hL (.inl rfl) (by decide); have hx := hq.1 (by decide); have hd9 := HD4.out.ext hx; rw [HAG.out] at hd9; have hpl := hd9.pl; have hst := hd9.store y2; rw [HKA0.out] at hpl hst; have hadr : Hid ((⟨(a5.add (k * 2)).block, (a5.add (k * 2)).off + 1, none⟩ : Addr) = ⟨g5, k * 2 + 1, none⟩) := hid (by rw [HAG.out, addr0]); obtain ⟨pl, hpl1⟩ : ∃ u, w'.cell? ⟨(a5.add (k * 2)).block, (a5.add (k * 2)).off + 1, none⟩ = some (vU u) := ⟨_, by rw [hadr.out]; exact hpl.1⟩; have ff : w'.frozen? ⟨(a5.add (k * 2)).block, (a5.add (k * 2)).off + 1, none⟩ = false := (by rw [hadr.out]; exact hpl.2); have hres := hid hst; clear hd9 hpl hst; go_simp; rw [hadr.out]; exact hK _ _ ⟨hs none _ _ ⟨fun h => absurd h (by decide), by have := hres.out; rw [HAG.out]; exact ⟨this.1, (Ext.fr hx).trans this.2⟩⟩, trivial⟩)
                trivial
              intro a' w' inv hR
              have q134 : a'.tmps.getD 134 undef = pv q := inv.done 0 _ 134 rfl rfl rfl
              have q135 : a'.tmps.getD 135 undef = pv q := inv.done 1 _ 135 rfl rfl rfl
              have q136 : a'.tmps.getD 136 undef = Value.pointer (some ⟨q, 2, none⟩) := inv.done 2 _ 136 rfl rfl rfl
              have q137 : a'.tmps.getD 137 undef = Value.slice (some a5) N5 c5 := inv.done 3 _ 137 rfl rfl rfl
              have q138 : a'.tmps.getD 138 undef = Value.int IntKind.i64 (k : Int) := inv.done 4 _ 138 rfl rfl rfl
              have q139 : a'.tmps.getD 139 undef = pv q := inv.done 5 _ 139 rfl rfl rfl
              have q140 : a'.tmps.getD 140 undef = pv q := inv.done 6 _ 140 rfl rfl rfl
              have q141 : a'.tmps.getD 141 undef = Value.pointer (some ⟨q, 0, none⟩) := inv.done 7 _ 141 rfl rfl rfl
              have q142 : a'.tmps.getD 142 undef = Value.slice (some rb) NR rc := inv.done 8 _ 142 rfl rfl rfl
              have q143 : a'.tmps.getD 143 undef = Value.int IntKind.i64 (j : Int) := inv.done 9 _ 143 rfl rfl rfl
              have q144 : a'.tmps.getD 144 undef = Value.pointer (some (rb.add (j * 2))) := inv.done 10 _ 144 rfl rfl rfl
              have q145 : a'.tmps.getD 145 undef = Value.pointer (some ⟨(rb.add (j * 2)).block, (rb.add (j * 2)).off + 1, none⟩) := inv.done 11 _ 145 rfl rfl rfl
              have q146 : a'.tmps.getD 146 undef = vU y2 := inv.done 12 _ 146 rfl rfl rfl
              have q147 : a'.tmps.getD 147 undef = Value.pointer (some (a5.add (k * 2))) := inv.done 13 _ 147 rfl rfl rfl
              have q148 : a'.tmps.getD 148 undef = Value.pointer (some ⟨(a5.add (k * 2)).block, (a5.add (k * 2)).off + 1, none⟩) := inv.done 14 _ 148 rfl rfl rfl
              clear inv
              simp only [List.filterMap_cons, List.filterMap_nil, Par.putAll, Act.put, List.setIfInBounds_toArray, List.set_cons_succ, List.set_cons_zero, q134, q135, q136, q137, q138, q139, q140, q141, q142, q143, q144, q145, q146, q147, q148]
              clear q134 q135 q136 q137 q138 q139 q140 q141 q142 q143 q144 q145 q146 q147 q148
              obtain ⟨-, hrd, hf⟩ := Rg.Ch.fin hR (by decide) 1 rfl; have HRD := hid hrd; have HF7 := hid hf; clear hrd hf hR
              try clear a'
              have HM5 : Hid (m + 1 = ((tk s.rows p0 n (j + 1)).map Prod.fst).length) := hid (by rw [HTK.out, List.map_append, List.length_append, ← HM.out]; rfl)
              have HO5 : Hid (w'.ownsRow w.heap.size 29 1 (.slice ao2 (m + 1) cap2) ((tk s.rows p0 n (j + 1)).map Prod.fst).length (((tk s.rows p0 n (j + 1)).map Prod.fst).map uv)) := hid (by
                rw [← HM5.out, HTK.out, List.map_append]
                exact ownsRow_fr HO4.out HF7.out (fun b hb hm => HD4.out.noU HO4.out b hb (by simp at hm; subst hm; rw [HAG.out]; simp [oB, Value.ownBlock])))
              have HD5 : Hid (RDD B w' q (.slice (some rb) NR rc) (.slice (some a5) N5 c5) { s with seen := A ++ (x, lastP p0 (tk s.rows p0 n (j + 1))) :: C }) := hid (by rw [HTK.out, lastP_app]; exact HRD.out)
              have HF8 := hid (fr_add HF4b.out HF7.out (fun b hb => by simp at hb; subst hb; exact HG5.out))
              clear HRD HF7 HO4 HD4 HF4b
              go_wp2
              go_roundw
              case rel => exact ⟨j + 1, m + 1, ao2, cap2, by omega, by go_num, rfl, HM5, HO5, HD5, HF8⟩
              case measure =>
                show NR - ((j : Int) + 1).toNat < NR - ((j : Int)).toNat
                omega
            · have hmb : decide ((m : Int) < n) = false := by simpa using hmn
              have HTK : Hid (tk s.rows p0 n (j + 1) = tk s.rows p0 n j) := hid (by
                obtain ⟨hj2, e⟩ := HY.out
                exact tk_keep hj2 (fun h => hmn (by have := HM.out; rw [List.length_map] at this; rw [this]; exact h.2)))
              clear hmn
              go_wp2
              go_roundw
              case rel => exact ⟨j + 1, m, oo, oc, by omega, by go_num, rfl, hid (by rw [HTK.out]; exact HM.out), hid (by rw [HTK.out]; exact HO.out), hid (by rw [HTK.out]; exact HD.out), HF⟩
              case measure =>
                show NR - ((j : Int) + 1).toNat < NR - ((j : Int)).toNat
                omega
          · have hpb : decide (p0.toNat < y2.toNat) = false := by rw [UInt64.lt_iff_toNat_lt] at hp; simpa using hp
            have HTK : Hid (tk s.rows p0 n (j + 1) = tk s.rows p0 n j) := hid (by
              obtain ⟨hj2, e⟩ := HY.out
              exact tk_keep hj2 (fun h => hp (by have := h.1; rw [e] at this; exact this)))
            clear hp
            go_wp2
            go_roundw
            case rel => exact ⟨j + 1, m, oo, oc, by omega, by go_num, rfl, hid (by rw [HTK.out]; exact HM.out), hid (by rw [HTK.out]; exact HO.out), hid (by rw [HTK.out]; exact HD.out), HF⟩
            case measure =>
              show NR - ((j : Int) + 1).toNat < NR - ((j : Int)).toNat
              omega
        · obtain rfl : j = NR := by omega
          have hjf : decide ((j : Int) < (j : Int)) = false := by simp
          go_wp2
          go_returns
          have hrs := HRS.out
          rw [HNR.out] at hrs
          unfold NxtR
          rw [hrs]
          exact ⟨⟨_, rfl, HO.out⟩, ⟨_, _, HD.out⟩, HF.out⟩
end Go.Proofs.YtfpljeblehieiaaDoor
