/- Load: what it holds while it makes a snapshot.
slices.Compact of numbers.
Segs.
snap.right.
(*writer).put.
Save.
take.
item.
The law's owns: a row of records as one of the document's.
Load: its mathematics. -/
import Derived.Test.YtpbmbjdiilnaeaaDoorSrtS
import Derived.Lib.SliceRun
import Derived.Laws.IdiomCopy
import Derived.Test.YtpbmbjdiilnaeaaDoorRecL
import Derived.StillTailTactics
set_option linter.unusedSimpArgs false
set_option linter.unusedVariables false
set_option maxRecDepth 100000
namespace Go.Proofs.YtpbmbjdiilnaeaaDoor
open Go Go.RowKit Go.Tum Go.ChangeMaps Go.Sort

/-- Of neighbours that are the same, one. -/
def ddU : List UInt64 → List UInt64
  | [] => []
  | [x] => [x]
  | x :: y :: r => if x = y then ddU (y :: r) else x :: ddU (y :: r)
theorem ddU_snoc : ∀ (l : List UInt64) (x y : UInt64), ddU (l ++ [x] ++ [y]) = if x = y then ddU (l ++ [x]) else ddU (l ++ [x]) ++ [y]
  | [], x, y => by
    simp only [List.nil_append, List.singleton_append, ddU]
    by_cases h : x = y
    · simp [h]
    · simp [h]
  | [a], x, y => by
    have ih := ddU_snoc [] x y
    simp only [List.nil_append] at ih
    simp only [List.singleton_append, List.cons_append, List.nil_append, ddU] at ih ⊢
    by_cases h : a = x <;> by_cases h2 : x = y <;> simp_all
  | a :: b :: t, x, y => by
    have ih := ddU_snoc (b :: t) x y
    simp only [List.cons_append] at ih ⊢
    simp only [ddU]
    rw [ih]
    by_cases h : a = b <;> by_cases h2 : x = y <;> simp [h, h2]
theorem ddU_len : ∀ l : List UInt64, (ddU l).length ≤ l.length
  | [] => Nat.le_refl _
  | [x] => Nat.le_refl _
  | x :: y :: r => by
    have ih := ddU_len (y :: r)
    simp only [ddU]
    split
    · simp only [List.length_cons] at *; omega
    · simp only [List.length_cons] at *; omega
/-- A beginning without neighbours that are the same. -/
def NoD (l : List UInt64) (k : Nat) : Prop := ∀ i (h : i + 1 < l.length), i + 1 < k → l[i] ≠ l[i + 1]
theorem ddU_same : ∀ (l : List UInt64), NoD l l.length → ddU l = l
  | [], _ => rfl
  | [x], _ => rfl
  | x :: y :: r, h => by
    have h0 : x ≠ y := h 0 (by simp) (by simp)
    have ih := ddU_same (y :: r) (fun i h1 h2 => h (i + 1) (by simp at h1 ⊢; omega) (by simp at h2 ⊢; omega))
    simp only [ddU, if_neg h0, ih]
theorem ddU_take {l : List UInt64} {k : Nat} (hk : k < l.length) (h0 : 0 < k) : ddU (l.take (k + 1)) = if l[k - 1] = l[k] then ddU (l.take k) else ddU (l.take k) ++ [l[k]] := by
  have e1 : l.take (k + 1) = l.take k ++ [l[k]] := List.take_succ_eq_append_getElem hk
  have e2 : l.take k = l.take (k - 1) ++ [l[k - 1]] := by
    have := List.take_succ_eq_append_getElem (l := l) (i := k - 1) (by omega)
    rwa [show k - 1 + 1 = k by omega] at this
  rw [e1, e2]
  exact ddU_snoc _ _ _
theorem NoD.take {l : List UInt64} {k : Nat} (h : NoD l k) (hk : k ≤ l.length) : NoD (l.take k) (l.take k).length := fun i h1 h2 => by
  rw [List.length_take] at h1
  simp only [List.getElem_take]
  exact h i (by omega) (by omega)
structure CmI (L M : List UInt64) (K0 k2 kk : Nat) : Prop where
  len : M.length = L.length
  a : M.take kk = ddU (L.take (K0 + k2))
  b : ∀ i (h1 : i < M.length) (h2 : i < L.length), K0 + k2 - 1 ≤ i → M[i] = L[i]
  c : kk + 1 ≤ K0 + k2
  d : K0 ≤ kk
theorem CmI.start {L : List UInt64} {K0 : Nat} (hK : K0 < L.length) (h0 : 0 < K0) (hn : NoD L K0) (he : L[K0 - 1] = L[K0]) : CmI L L K0 1 K0 := by
  refine ⟨rfl, ?_, fun i _ _ _ => rfl, Nat.le_refl _, Nat.le_refl _⟩
  rw [ddU_take hK h0, if_pos he, ddU_same _ (hn.take (by omega))]
theorem CmI.skip {L M : List UInt64} {K0 k2 kk : Nat} (h : CmI L M K0 k2 kk) (h1 : K0 + k2 < L.length) (h2 : 1 ≤ k2) (he : L[K0 + k2 - 1] = L[K0 + k2]) : CmI L M K0 (k2 + 1) kk := by
  refine ⟨h.len, ?_, fun i a b c => h.b i a b (by omega), by have := h.c; omega, h.d⟩
  rw [h.a, ← Nat.add_assoc, ddU_take h1 (by omega), if_pos he]
theorem CmI.keep {L M : List UInt64} {K0 k2 kk : Nat} (h : CmI L M K0 k2 kk) (h1 : K0 + k2 < L.length) (h2 : 1 ≤ k2) (he : L[K0 + k2 - 1] ≠ L[K0 + k2]) : CmI L (M.set kk L[K0 + k2]) K0 (k2 + 1) (kk + 1) := by
  have hc := h.c
  have hl := h.len
  refine ⟨by rw [List.length_set]; exact hl, ?_, fun i a b c => ?_, by omega, by have := h.d; omega⟩
  · rw [← Nat.add_assoc, ddU_take h1 (by omega), if_neg he, ← h.a]
    have hkl : kk < (M.set kk L[K0 + k2]).length := by rw [List.length_set, hl]; omega
    rw [List.take_succ_eq_append_getElem hkl, List.getElem_set_self, List.take_set, List.set_eq_of_length_le (by rw [List.length_take]; omega)]
  · rw [List.getElem_set, if_neg (by omega)]
    exact h.b i (by rw [List.length_set] at a; exact a) b (by omega)
theorem setCells_frU : ∀ (l : List Value) (w : World) (b k : Nat), Fr [b] w (w.setCells b k l)
  | [], w, b, k => Ext.fr (Ext.refl w)
  | v :: r, w, b, k => by
    have h1 : Fr [b] w (w.setCell ⟨b, k, none⟩ v) := fr_setCell _ _ _ (by simp)
    exact h1.trans (setCells_frU r _ b (k + 1))
set_option maxHeartbeats 4000000 in
theorem compact_any {B : Nat} {w : World} (g n cap : Nat) (L : List UInt64) (h : RowU w B g n cap L) (hn : L.length = n) (hb : n ≤ 1000000) (hcp : n ≤ cap ∧ cap ≤ 9223372036854775807) :
    Calls Tryd.prog 31 #[.slice (some ⟨g, 0, none⟩) n cap] w fun e w' => (∃ v, e = .returned v ∧ Vec uv w' v (ddU L)) ∧ Fr [g] w w' := by
  have H := hid h
  have HN := hid hn
  have hvec : ∀ (w' : World) (M : List UInt64), RowU w' B g n cap M → M.length = n → ∀ k, k ≤ n → Vec uv w' (.slice (some ⟨g, 0, none⟩) k cap) (M.take k) := fun w' M hM hl k hk => by
    refine ⟨by simp, some ⟨g, 0, none⟩, cap, by rw [List.length_take]; congr 1; omega, by rw [List.length_take]; omega, by simp [maxLen]; omega, (fun h => by cases h), fun a ha j u hu => ?_⟩
    cases ha
    rw [List.getElem?_map, List.getElem?_take] at hu
    split at hu
    · rename_i hj
      rw [List.getElem?_eq_getElem (by omega)] at hu
      simp at hu
      rw [addU, ← hu]
      exact (hM.at hl (by omega)).1
    · simp at hu
  have HVEC := hid hvec
  have hvc : ∀ (w' : World) (M : List UInt64), RowU w' B g n cap M → M.length = n → ∀ k, k ≤ n → ∀ zs, Vec uv (w'.setCells g k zs) (.slice (some ⟨g, 0, none⟩) k cap) (M.take k) := fun w' M hM hl k hk zs => by
    refine ⟨by simp, some ⟨g, 0, none⟩, cap, by rw [List.length_take]; congr 1; omega, by rw [List.length_take]; omega, by simp [maxLen]; omega, (fun h => by cases h), fun a ha j u hu => ?_⟩
    cases ha
    rw [List.getElem?_map, List.getElem?_take] at hu
    split at hu
    · rename_i hj
      rw [List.getElem?_eq_getElem (by omega)] at hu
      simp at hu
      rw [addU, ← hu, World.cell?_setCells_out g _ _ _ _ (fun _ _ => Or.inl hj)]
      exact (hM.at hl (by omega)).1
    · simp at hu
  have HVC := hid hvc
  clear h hn hvec hvc
  by_cases h2 : n < 2
  · have hd : decide ((n : Int) < 2) = true := by simp; omega
    have HF : Hid (ddU L = L) := hid (ddU_same _ (fun i h1 h3 => by have := HN.out; omega))
    clear h2
    go_enter Tryd.func31, Tryd.ntmps31
    go_wp2
    go_returns
    rw [HF.out]
    have := HVEC.out w L H.out HN.out n (Nat.le_refl _)
    rw [List.take_of_length_le (by rw [HN.out]; exact Nat.le_refl _)] at this
    exact ⟨⟨_, rfl, this⟩, Ext.fr (Ext.refl _)⟩
  have hd : decide ((n : Int) < 2) = false := by simp; omega
  have H2 : Hid (2 ≤ n) := hid (by omega)
  clear h2
  go_enter Tryd.func31, Tryd.ntmps31
  go_wp2
  clear hd
  go_loopw [3] (fun i wr => ∃ k : Nat, 1 ≤ k ∧ k ≤ n ∧ i = .int .i64 (k : Int) ∧ Hid (NoD L k) ∧ Hid (Ext w wr)) (fun i _ => n - (intOf i).toNat)
  case atStart => exact ⟨1, Nat.le_refl _, by have := H2.out; omega, rfl, hid (fun i h1 h3 => by omega), hid (Ext.refl _)⟩
  case round =>
    obtain ⟨k, hk1, hk, rfl, HD, HE⟩ := hrel
    by_cases hlt : k < n
    · have hkj : decide ((k : Int) < (n : Int)) = true := by simp; omega
      have hkj2 : (k : Int) < (n : Int) := by omega
      obtain ⟨q, hq⟩ : ∃ q, q + 1 = k := ⟨k - 1, by omega⟩
      have hwq : IntKind.i64.wrap ((k : Int) - 1) = (q : Int) := i64v _ (by omega) (by omega)
      have hql : (q : Int) < (n : Int) := by omega
      have hr := HE.out.owns H.out
      have c0 := (RowU.at (l := L) hr HN.out (j := k) hlt).1
      have c1 := (RowU.at (l := L) hr HN.out (j := q) (by omega)).1
      obtain ⟨x, hx⟩ : ∃ x, L[k]'(by rw [HN.out]; exact hlt) = x := ⟨_, rfl⟩
      obtain ⟨y, hy⟩ : ∃ y, L[q]'(by have := HN.out; omega) = y := ⟨_, rfl⟩
      rw [hx] at c0
      rw [hy] at c1
      have HX := hid hx
      have HY := hid hy
      have HQ := hid hq
      have HLT := hid hlt
      clear hr hx hy
      by_cases hxy : x = y
      · subst hxy
        have hbe : ((x.toNat : Int) == (x.toNat : Int)) = true := by simp
        have hI := CmI.start (L := L) (K0 := k) (by rw [HN.out]; exact HLT.out) (by omega) HD.out (by
          have h1 := HX.out; have h2 := HY.out
          have : k - 1 = q := by have := HQ.out; omega
          simp only [this]; rw [h1, h2])
        have HI := hid hI
        have hkc : ¬ cap = k := by have := HLT.out; omega
        have hkc2 : (k : Int) ≤ (n : Int) := by omega
        have HK := hid hk1
        clear hI
        go_wp2_with fail
        go_quiet (fail)
        go_wp2_with fail
        clear hkj c0 c1 hbe
        go_loopw [3, 5] (fun i jv wr2 => ∃ (kk k2 : Nat) (M : List UInt64), 1 ≤ k2 ∧ k + k2 ≤ n ∧ kk + 1 ≤ k + k2 ∧ i = .int .i64 (kk : Int) ∧ jv = .int .i64 (k2 : Int) ∧ Hid (CmI L M k k2 kk) ∧ Hid (RowU wr2 B g n cap M) ∧ Hid (Fr [g] w wr2)) (fun _ jv _ => n - (intOf jv).toNat)
        case atStart => exact ⟨k, 1, L, Nat.le_refl _, by have := HLT.out; omega, Nat.le_refl _, rfl, rfl, HI, hid ((Ext.trans HE.out (Ext.drewN _ _)).owns H.out), hid (Ext.fr (Ext.trans HE.out (Ext.drewN _ _)))⟩
        case round =>
          clear HI
          obtain ⟨kk, k2, M, h1, h2, h3, rfl, rfl, HI, HR, HF⟩ := hrel
          have HML : Hid (M.length = n) := hid (by rw [HI.out.len, HN.out])
          obtain ⟨q2, hq2⟩ : ∃ q2, q2 + 1 = k2 := ⟨k2 - 1, by omega⟩
          by_cases hlt2 : k + k2 < n
          · have hkj3 : decide ((k2 : Int) < ((n - k : Nat) : Int)) = true := by simp; omega
            have hkj4 : (k2 : Int) < ((n - k : Nat) : Int) := by omega
            have hwq2 : IntKind.i64.wrap ((k2 : Int) - 1) = (q2 : Int) := i64v _ (by omega) (by omega)
            have hql2 : (q2 : Int) < ((n - k : Nat) : Int) := by omega
            have c2 := (RowU.at (l := M) HR.out HML.out (j := k + k2) hlt2).1
            have c3 := (RowU.at (l := M) HR.out HML.out (j := k + q2) (by omega)).1
            obtain ⟨x2, hx2⟩ : ∃ x, L[k + k2]'(by rw [HN.out]; exact hlt2) = x := ⟨_, rfl⟩
            obtain ⟨y2, hy2⟩ : ∃ y, L[k + q2]'(by have := HN.out; omega) = y := ⟨_, rfl⟩
            rw [HI.out.b _ (by rw [HML.out]; exact hlt2) (by rw [HN.out]; exact hlt2) (by omega), hx2] at c2
            rw [HI.out.b _ (by rw [HML.out]; omega) (by rw [HN.out]; omega) (by omega), hy2] at c3
            have HX2 := hid hx2
            have HY2 := hid hy2
            have HL2 := hid hlt2
            have HQ2 := hid hq2
            clear hx2 hy2
            have hwk2 : IntKind.i64.wrap ((k2 : Int) + 1) = ((k2 + 1 : Nat) : Int) := i64v _ (by omega) (by omega)
            by_cases hxy2 : x2 = y2
            · subst hxy2
              have hbn : ((x2.toNat : Int) != (x2.toNat : Int)) = false := by simp
              go_wp2_with fail
              go_quiet (fail)
              go_wp2
              go_roundw
              case rel => exact ⟨kk, k2 + 1, M, by omega, by omega, by omega, rfl, by first | rfl | go_num, hid (HI.out.skip (by rw [HN.out]; exact HL2.out) h1 (by
                have h5 := HX2.out; have h6 := HY2.out
                have : k + k2 - 1 = k + q2 := by have := HQ2.out; omega
                simp only [this]; rw [h5, h6])), hid ((Ext.drewN _ _).owns HR.out), hid (HF.out.trans (Ext.fr (Ext.drewN _ _)))⟩
              case measure => simp [intOf]; omega
            · have hbn : ((x2.toNat : Int) != (y2.toNat : Int)) = true := by
                rw [bne_iff_ne]; intro e; exact hxy2 (UInt64.toNat_inj.1 (by omega))
              have HXY2 := hid hxy2
              have hkn : (kk : Int) < (n : Int) := by omega
              have hwkk : IntKind.i64.wrap ((kk : Int) + 1) = ((kk + 1 : Nat) : Int) := i64v _ (by omega) (by omega)
              have hHk := RowU.at (l := M) HR.out HML.out (j := kk) (by omega)
              have ck := hHk.1
              have fk := hHk.2
              clear hxy2 hHk
              go_wp2_with fail
              go_quiet (fail)
              go_wp2
              go_roundw
              case rel => exact ⟨kk + 1, k2 + 1, M.set kk x2, by omega, by omega, by omega, by first | rfl | go_num, by first | rfl | go_num, hid (by
                have h := HI.out.keep (by rw [HN.out]; exact HL2.out) h1 (by
                  have h5 := HX2.out; have h6 := HY2.out
                  have : k + k2 - 1 = k + q2 := by have := HQ2.out; omega
                  simp only [this]; rw [h5, h6]; exact fun e => HXY2.out e.symm)
                rwa [HX2.out] at h), hid (RowU.set (l := M) ((Ext.drewN _ _).owns HR.out) kk x2).1, hid ((HF.out.trans (Ext.fr (Ext.drewN _ _))).trans (RowU.set (l := M) ((Ext.drewN _ _).owns HR.out) kk x2).2)⟩
              case measure => simp [intOf]; omega
          · have hkf3 : decide ((k2 : Int) < ((n - k : Nat) : Int)) = false := by simp; omega
            have hkf4 : ¬ (k2 : Int) < ((n - k : Nat) : Int) := by omega
            have hcl : ∀ ty, (Builtin.clear_ #[56] ty #[.slice (some ⟨g, kk, none⟩) (n - kk) (cap - kk)]).run Tryd.prog wr = .ok (.tuple #[]) (wr.setCells g kk (List.replicate (n - kk) (.int .u64 0))) :=
              fun ty => Lib.run_clear_slice wr _ _ ty _ Tryd.underlying56 Tryd.zeroValue22 rfl rfl g kk _ _ (by omega) (fun j hj => by rw [(RowU.at (l := M) HR.out HML.out (j := kk + j) (by omega)).1]; rfl) (fun j hj => (RowU.at (l := M) HR.out HML.out (j := kk + j) (by omega)).2)
            have hkn : (kk : Int) ≤ (n : Int) := by omega
            have hkn2 : (kk : Int) ≤ (cap : Int) := by omega
            have HEq : Hid (k + k2 = n) := hid (by omega)
            have HKN : Hid (kk ≤ n) := hid (by omega)
            clear hlt2
            go_wp2
            go_returns
            have hv := HVC.out wr M HR.out HML.out kk HKN.out
            rw [HI.out.a, HEq.out, List.take_of_length_le (by rw [HN.out]; exact Nat.le_refl _)] at hv
            exact ⟨⟨_, rfl, hv _⟩, HF.out.trans (setCells_frU _ _ _ _)⟩
      · have hbe : ((x.toNat : Int) == (y.toNat : Int)) = false := by
          rw [beq_eq_false_iff_ne]; intro e; exact hxy (UInt64.toNat_inj.1 (by omega))
        have HXY := hid hxy
        have hwk : IntKind.i64.wrap ((k : Int) + 1) = ((k + 1 : Nat) : Int) := i64v _ (by omega) (by omega)
        clear hxy
        go_wp2_with fail
        go_quiet (fail)
        go_wp2
        go_roundw
        case rel => exact ⟨k + 1, by omega, HLT.out, by first | rfl | go_num, hid (fun i h1 h3 => by
          by_cases e : i + 1 = k
          · have h5 := HX.out; have h6 := HY.out
            have : i = q := by have := HQ.out; omega
            subst this
            subst e
            rw [h5, h6]
            exact fun e => HXY.out e.symm
          · exact HD.out i h1 (by omega)), hid (HE.out.trans (Ext.drewN _ _))⟩
        case measure => have := HLT.out; simp [intOf]; omega
    · have hkf : decide ((k : Int) < (n : Int)) = false := by simp; omega
      have hkf2 : (k < n) = False := by simp; omega
      have HF : Hid (ddU L = L) := hid (ddU_same _ (fun i h1 h3 => HD.out i h1 (by have := HN.out; omega)))
      clear hlt
      go_wp2
      go_returns
      rw [HF.out]
      have := HVEC.out wr L (HE.out.owns H.out) HN.out n (Nat.le_refl _)
      rw [List.take_of_length_le (by rw [HN.out]; exact Nat.le_refl _)] at this
      exact ⟨⟨_, rfl, this⟩, Ext.fr HE.out⟩
end Go.Proofs.YtpbmbjdiilnaeaaDoor

set_option linter.unusedSimpArgs false
set_option linter.unusedVariables false
set_option maxRecDepth 100000
namespace Go.Proofs.YtpbmbjdiilnaeaaDoor
open Go Go.RowKit Go.Tum Go.ChangeMaps Go.Sort

/-- A message, as a snapshot keeps it. -/
structure Itm where
  id : UInt64
  lane : Int
  st : Int
  cnt : Int
  due : UInt64
  tok : UInt64
  turn : UInt64
  seg : UInt64
  ps : UInt64
  size : Int
def itcells (o : Itm) : List Value := [uv o.id, .int .i64 o.lane, .int .i64 o.st, .int .i64 o.cnt, uv o.due, uv o.tok, uv o.turn, uv o.seg, uv o.ps, .int .i64 o.size]
abbrev Its (w : World) (v : Value) (l : List Itm) : Prop := RowsOf w 10 v itcells l
theorem blk10 {w : World} {b : Nat} {v0 v1 v2 v3 v4 v5 v6 v7 v8 v9 : Value} {ty : TypeId} (h : w.heap[b]? = some (.cells #[v0, v1, v2, v3, v4, v5, v6, v7, v8, v9] ty (0, 0))) :
    (w.cell? ⟨b, 0, none⟩ = some v0 ∧ w.cell? ⟨b, 1, none⟩ = some v1 ∧ w.cell? ⟨b, 2, none⟩ = some v2 ∧ w.cell? ⟨b, 3, none⟩ = some v3 ∧ w.cell? ⟨b, 4, none⟩ = some v4 ∧ w.cell? ⟨b, 5, none⟩ = some v5 ∧ w.cell? ⟨b, 6, none⟩ = some v6 ∧ w.cell? ⟨b, 7, none⟩ = some v7 ∧ w.cell? ⟨b, 8, none⟩ = some v8 ∧ w.cell? ⟨b, 9, none⟩ = some v9) ∧ ∀ i, w.frozen? ⟨b, i, none⟩ = false := by
  refine ⟨⟨?_, ?_, ?_, ?_, ?_, ?_, ?_, ?_, ?_, ?_⟩, fun i => by simp [World.frozen?, h]⟩ <;> (rw [cell_of_row _ _ _ _ _ _ h]; rfl)
theorem ins_nil (w : World) : Calls Tryd.prog 40 #[.slice none 0 0, .int .i64 0, .int .i64 0] w fun e w' => (∃ u, e = .returned u) ∧ w' = w := by
  go_enter Tryd.func40, Tryd.ntmps40
  go_wp2
  go_loopw [6] (fun i wr => i = .int .i64 1 ∧ wr = w) (fun _ _ => 0)
  case atStart => exact ⟨rfl, rfl⟩
  case round =>
    obtain ⟨rfl, rfl⟩ := hrel
    go_wp2
    go_returns
    exact ⟨⟨_, rfl⟩, rfl⟩
theorem pdq_nil (k : Int) (w : World) : Calls Tryd.prog 38 #[.slice none 0 0, .int .i64 0, .int .i64 0, .int .i64 k] w fun e w' => (∃ u, e = .returned u) ∧ w' = w := by
  have HC := hid (ins_nil w)
  go_enter Tryd.func38, Tryd.ntmps38
  go_wp2
  go_loopw [1, 2] (fun a b wr => a = .int .i64 0 ∧ b = .int .i64 0 ∧ wr = w) (fun _ _ _ => 0)
  case atStart => exact ⟨rfl, rfl, rfl⟩
  case round =>
    obtain ⟨rfl, rfl, rfl⟩ := hrel
    go_wp2_with fail
    refine HC.out.mono ?_
    rintro e w1 ⟨⟨u, rfl⟩, rfl⟩
    go_wp2
    go_returns
    exact ⟨⟨_, rfl⟩, rfl⟩
theorem sort_nil (w : World) : Calls Tryd.prog 30 #[.slice none 0 0] w fun e w' => (∃ u, e = .returned u) ∧ Ext w w' := by
  have hbl : ∀ w2, Calls Tryd.prog 39 #[.int .u64 0] w2 fun e w3 => (∃ k : Int, e = .returned (.int .i64 k)) ∧ w3 = w2 := fun w2 => (Tryd.bits_Len 0 w2 (by omega) (by omega)).mono fun _ _ hh => ⟨⟨_, hh.1⟩, hh.2⟩
  have HBL := hid hbl
  have HE := hid (Ext.refl w)
  clear hbl
  go_enter Tryd.func30, Tryd.ntmps30
  go_wp2_with fail
  refine (HBL.out _).mono ?_
  rintro e w2 ⟨⟨k, rfl⟩, rfl⟩
  go_wp2_with fail
  refine (pdq_nil k w2).mono ?_
  rintro e w3 ⟨⟨u, rfl⟩, rfl⟩
  go_wp2
  go_returns
  exact ⟨⟨_, rfl⟩, HE.out⟩
/-- The segments that messages are kept in. -/
def segsOf (l : List Itm) : List UInt64 := ddU ((l.map (·.seg)).mergeSort fun x y => decide (x ≤ y))
set_option maxHeartbeats 4000000 in
theorem segs_any (v : Value) (l : List Itm) (w : World) (hr : Its w v l) (hl : l.length ≤ 1000000) :
    Calls Tryd.prog 18 #[v] w fun e w' => (∃ u, e = .returned u ∧ Vec uv w' u (segsOf l)) ∧ Ext w w' := by
  obtain ⟨ao, cap, rfl, hle, hmx, hnn, hcell⟩ := hr.open
  have HC := hid hcell
  have HNN := hid hnn
  obtain ⟨n, hn⟩ : ∃ n, l.length = n := ⟨_, rfl⟩
  rw [hn] at hl hle
  rw [hn]
  have HN := hid hn
  clear hr hnn hcell hn
  go_enter Tryd.func18, Tryd.ntmps18
  go_wp2
  go_loopw [3, 8] (fun sv i wr => ∃ (k : Nat), k ≤ n ∧ i = .int .i64 (k : Int) ∧ Hid (OwV uv wr w.heap.size 22 sv ((l.map (·.seg)).take k)) ∧ Hid (Ext w wr)) (fun _ i _ => n - (intOf i).toNat)
  case atStart => exact ⟨0, Nat.zero_le _, rfl, hid (OwV.nil _ _ _), hid (Ext.refl _)⟩
  case round =>
    rename_i sv
    obtain ⟨k, hk, rfl, HO, HE⟩ := hrel
    by_cases hlt : k < n
    · have hkj : decide ((k : Int) < (n : Int)) = true := by simp; omega
      have hkj2 : (k : Int) < (n : Int) := by omega
      obtain ⟨g, rfl⟩ := HNN.out (by omega)
      have hltL : k < l.length := by rw [HN.out]; exact hlt
      have hc := fun j u h => HE.out.cell (HC.out g rfl k hltL j u h)
      have HTK : Hid ((l.map (·.seg)).take (k + 1) = (l.map (·.seg)).take k ++ [(l[k]'hltL).seg]) := hid (by rw [List.take_succ_eq_append_getElem (by rw [List.length_map]; exact hltL), List.getElem_map])
      have hTL : ((l.map (·.seg)).take k).length = k := by rw [List.length_take, List.length_map]; omega
      obtain ⟨T, hT⟩ : ∃ T, (l.map (·.seg)).take k = T := ⟨_, rfl⟩
      rw [hT] at HO HTK hTL
      have HTL := hid hTL
      obtain ⟨o, ho⟩ : ∃ o, l[k]'hltL = o := ⟨_, rfl⟩
      rw [ho] at hc HTK
      obtain ⟨id, lane, st, cnt, due, tok, turn, seg, ps, size⟩ := o
      have k0 := cell_first (hc 0 _ rfl)
      have k1 := cell_next (hc 1 _ rfl) (by decide)
      have k2 := cell_next (hc 2 _ rfl) (by decide)
      have k3 := cell_next (hc 3 _ rfl) (by decide)
      have k4 := cell_next (hc 4 _ rfl) (by decide)
      have k5 := cell_next (hc 5 _ rfl) (by decide)
      have k6 := cell_next (hc 6 _ rfl) (by decide)
      have k7 := cell_next (hc 7 _ rfl) (by decide)
      have k8 := cell_next (hc 8 _ rfl) (by decide)
      have k9 := cell_next (hc 9 _ rfl) (by decide)
      obtain ⟨W1, hW1⟩ : ∃ W, wr.alloc (.cells #[uv id, .int .i64 lane, .int .i64 st, .int .i64 cnt, uv due, uv tok, uv turn, uv seg, uv ps, .int .i64 size] 69 (0, 0)) = W := ⟨_, rfl⟩
      have hE1 := Ext.alloc wr (.cells #[uv id, .int .i64 lane, .int .i64 st, .int .i64 cnt, uv due, uv tok, uv turn, uv seg, uv ps, .int .i64 size] 69 (0, 0))
      have hb1 := heap_alloc_new wr (.cells #[uv id, .int .i64 lane, .int .i64 st, .int .i64 cnt, uv due, uv tok, uv turn, uv seg, uv ps, .int .i64 size] 69 (0, 0))
      rw [hW1] at hE1 hb1
      obtain ⟨⟨m0, m1, m2, m3, m4, m5, m6, m7, m8, m9⟩, mf⟩ := blk10 hb1
      have HX1 := hid (HE.out.trans hE1)
      have HO1 := hid (HO.out.ext hE1)
      have HLT := hid hlt
      have hwk : IntKind.i64.wrap ((k : Int) + 1) = ((k + 1 : Nat) : Int) := i64v _ (by omega) (by omega)
      clear hc ho hE1 hb1 hltL hlt hT hTL HE HO
      go_wp2_with (first | rw [hW1] | (at_builtin; refine wpList_append_vec uv_one rfl (.tmp 12) (.tmp 16) 56 rfl w.heap.size 22 Tryd.underlying56 info64 rfl rfl (HO1.out.ext (Ext.alloc _ _)) rfl (Vec.one _ _ _ seg rfl) (k + 1) (by rw [HTL.out]; rfl) (by have := HLT.out; omega) (by have := HLT.out; omega) (Nat.le_trans HX1.out.size (by simp)) ?_; intro ao3 cap3 w3 hO3 hg3 hb3; have HO3 := hid hO3; have HE3 : Hid (Ext w w3) := hid (Below.trans (HX1.out.trans (Ext.alloc _ _)) hb3); clear hO3 hg3 hb3))
      go_roundw
      case rel => exact ⟨k + 1, HLT.out, by first | rfl | go_num, by rw [HTK.out]; exact HO3, HE3⟩
      case measure => have := HLT.out; simp [intOf]; omega
    have hkf : decide ((k : Int) < (n : Int)) = false := by simp; omega
    have hkf2 : (k < n) = False := by simp; omega
    have htk : (l.map (·.seg)).take k = l.map (·.seg) := List.take_of_length_le (by rw [List.length_map, HN.out]; omega)
    rw [htk] at HO
    have hSL : (l.map (·.seg)).length = n := by rw [List.length_map]; exact HN.out
    obtain ⟨S, hS⟩ : ∃ S, l.map (·.seg) = S := ⟨_, rfl⟩
    have HS : Hid (segsOf l = ddU (S.mergeSort fun x y => decide (x ≤ y))) := hid (by rw [← hS]; rfl)
    rw [hS] at HO hSL
    have HSL := hid hSL
    clear hlt htk hS hSL
    have ho := HO.out
    obtain ⟨-, ho⟩ := ho
    rcases ho with ⟨rfl, h0⟩ | ⟨g, cap2, cur, rfl, hg, h1, h2, h3, h4, h5⟩
    · have hS0 : S = [] := List.eq_nil_of_length_eq_zero h0
      have HC2 := hid (sort_nil wr)
      clear h0 HO
      go_wp2_with fail
      refine HC2.out.mono ?_
      rintro e w2 ⟨⟨u, rfl⟩, hx⟩
      have HE2 := hid (HE.out.trans hx)
      clear hx HC2 HE
      go_wp2
      go_returns
      rw [HS.out, hS0]
      refine ⟨⟨_, rfl, ?_⟩, HE2.out⟩
      rw [show ddU (([] : List UInt64).mergeSort fun x y => decide (x ≤ y)) = [] by simp [ddU]]
      exact Vec.nil _
    · have hrow : RowU wr w.heap.size g S.length cap2 S := HO.out
      have HC2 := hid (sortV_any g S.length cap2 S hrow rfl (by rw [HSL.out]; omega))
      have HGE := hid hg
      have HCP : Hid (S.length ≤ cap2 ∧ cap2 ≤ 9223372036854775807) := hid ⟨h2, by simpa [maxLen] using h3⟩
      clear hrow hg h1 h2 h3 h4 h5 HO
      go_wp2_with fail
      refine HC2.out.mono ?_
      rintro e w2 ⟨⟨u, rfl⟩, hr2, hf2⟩
      have HB2 : Hid (Below w.heap.size wr w2) := hid (hf2.below (fun x hx => by simp at hx; rw [hx]; exact HGE.out) HE.out.size)
      have HC3 := hid (compact_any g S.length cap2 _ hr2 (by rw [List.length_mergeSort]) (by rw [HSL.out]; omega) HCP.out)
      clear hr2 hf2 HC2
      go_wp2_with fail
      refine HC3.out.mono ?_
      rintro e w3 ⟨⟨u3, rfl, hv⟩, hf3⟩
      have hb3 : Below w.heap.size w2 w3 := hf3.below (fun x hx => by simp at hx; rw [hx]; exact HGE.out) (Nat.le_trans HE.out.size HB2.out.size)
      have HE3 : Hid (Ext w w3) := hid ((HE.out.below HB2.out).below hb3)
      have HV := hid hv
      clear hv hf3 hb3 HC3
      go_wp2
      go_returns
      rw [HS.out]
      exact ⟨⟨_, rfl, HV.out⟩, HE3.out⟩
end Go.Proofs.YtpbmbjdiilnaeaaDoor

set_option linter.unusedSimpArgs false
set_option linter.unusedVariables false
set_option maxRecDepth 100000
namespace Go.Proofs.YtpbmbjdiilnaeaaDoor
open Go Go.RowKit Go.Tum Go.ChangeMaps Go.Sort

/-- A snapshot. -/
structure Snp where
  now : UInt64
  next : UInt64
  lea : UInt64
  trn : UInt64
  dth : UInt64
  items : List Itm
  dead : List (UInt64 × UInt64)
  curs : List (List UInt8 × UInt64)
  seg : UInt64
  ps : UInt64
def ddcells (o : UInt64 × UInt64) : List Value := [uv o.1, uv o.2]
def cucells (o : List UInt8 × UInt64) : List Value := [.string (str o.1), uv o.2]
/-- The rows of a snapshot lie in a world. -/
structure SnpIn (w : World) (s : Snp) (vi vd vc : Value) : Prop where
  it : Its w vi s.items
  dd : RowsOf w 2 vd ddcells s.dead
  cu : RowsOf w 2 vc cucells s.curs
theorem SnpIn.ext {w w' : World} {s : Snp} {vi vd vc : Value} (h : SnpIn w s vi vd vc) (k : Ext w w') : SnpIn w' s vi vd vc := ⟨h.it.ext k, h.dd.ext k, h.cu.ext k⟩
def snpC (s : Snp) (vi vd vc : Value) : Array Value := #[uv s.now, uv s.next, uv s.lea, uv s.trn, uv s.dth, vi, vd, vc, uv s.seg, uv s.ps]
def okN (n : Int) : Bool := decide (0 ≤ n ∧ n ≤ 1000)
def okIt (o : Itm) : Bool := okN o.lane && (okN o.st && (okN o.cnt && okN o.size))
def rightS (s : Snp) : Bool := s.items.all okIt && s.curs.all fun c => decide (c.1.length ≤ 64)
theorem okN_lo {n : Int} (h : n < 0) : okN n = false := by unfold okN; simp; omega
theorem okN_hi {n : Int} (h : 1000 < n) : okN n = false := by unfold okN; simp; omega
theorem okN_yes {n : Int} (h : ¬ n < 0) (h2 : ¬ 1000 < n) : okN n = true := by unfold okN; simp; omega
theorem all_succ {α : Type} (p : α → Bool) (l : List α) (k : Nat) (h : k < l.length) : (l.take (k + 1)).all p = ((l.take k).all p && p l[k]) := by
  rw [List.take_succ_eq_append_getElem h, List.all_append]; simp
theorem all_no {α : Type} (p : α → Bool) (l : List α) (k : Nat) (h : k < l.length) (hp : p l[k] = false) : l.all p = false := by
  rw [Bool.eq_false_iff]
  intro ha
  have := List.all_eq_true.1 ha _ (List.getElem_mem h)
  rw [hp] at this
  cases this

theorem ix4_0 (a b c d : Int) (w : World) : (Instr.index 96 (.agg #[.int .i64 a, .int .i64 b, .int .i64 c, .int .i64 d]) (.int .i64 0)).run Tryd.prog w = .ok (.int .i64 a) w := by kernel_rfl
theorem ix4_1 (a b c d : Int) (w : World) : (Instr.index 96 (.agg #[.int .i64 a, .int .i64 b, .int .i64 c, .int .i64 d]) (.int .i64 1)).run Tryd.prog w = .ok (.int .i64 b) w := by kernel_rfl
theorem ix4_2 (a b c d : Int) (w : World) : (Instr.index 96 (.agg #[.int .i64 a, .int .i64 b, .int .i64 c, .int .i64 d]) (.int .i64 2)).run Tryd.prog w = .ok (.int .i64 c) w := by kernel_rfl
theorem ix4_3 (a b c d : Int) (w : World) : (Instr.index 96 (.agg #[.int .i64 a, .int .i64 b, .int .i64 c, .int .i64 d]) (.int .i64 3)).run Tryd.prog w = .ok (.int .i64 d) w := by kernel_rfl
set_option maxHeartbeats 8000000 in
theorem sright_any (s : Snp) (vi vd vc : Value) (w : World) (h : SnpIn w s vi vd vc) :
    Calls Tryd.prog 22 #[.agg (snpC s vi vd vc)] w fun e w' => e = .returned (.bool (rightS s)) ∧ Ext w w' := by
  obtain ⟨R, hR⟩ : ∃ R, rightS s = R := ⟨_, rfl⟩
  have HR : Hid (rightS s = R) := hid hR
  rw [hR]
  obtain ⟨ao, cap, rfl, hle, hmx, hnn, hcell⟩ := h.it.open
  obtain ⟨co, cap2, rfl, hle2, hmx2, hnn2, hcell2⟩ := h.cu.open
  have HC := hid hcell
  have HNN := hid hnn
  have HC2 := hid hcell2
  have HNN2 := hid hnn2
  obtain ⟨now, next, lea, trn, dth, items, dead, curs, sg, ps⟩ := s
  obtain ⟨n, hn⟩ : ∃ n, items.length = n := ⟨_, rfl⟩
  obtain ⟨m, hm⟩ : ∃ n, curs.length = n := ⟨_, rfl⟩
  dsimp only at hle hle2 HC HC2 ⊢
  rw [hn] at hle
  rw [hm] at hle2
  have HN := hid hn
  have HM := hid hm
  unfold snpC
  dsimp only
  rw [hn, hm]
  obtain ⟨W0, hW0⟩ : ∃ W, w.alloc (.cells #[uv now, uv next, uv lea, uv trn, uv dth, .slice ao n cap, vd, .slice co m cap2, uv sg, uv ps] 29 (0, 0)) = W := ⟨_, rfl⟩
  have hE0 := Ext.alloc w (.cells #[uv now, uv next, uv lea, uv trn, uv dth, .slice ao n cap, vd, .slice co m cap2, uv sg, uv ps] 29 (0, 0))
  have hb0 := heap_alloc_new w (.cells #[uv now, uv next, uv lea, uv trn, uv dth, .slice ao n cap, vd, .slice co m cap2, uv sg, uv ps] 29 (0, 0))
  rw [hW0] at hE0 hb0
  have HE0 := hid hE0
  have HB0 := hid hb0
  obtain ⟨⟨b0, b1, b2, b3, b4, b5, b6, b7, b8, b9⟩, bf⟩ := blk10 hb0
  clear h hnn hcell hnn2 hcell2 hn hm hR hE0 hb0
  go_enter Tryd.func22, Tryd.ntmps22
  go_wp2_with rw [hW0]
  clear hW0 b0 b1 b2 b3 b4 b5 b6 b7 b8 b9 bf
  go_loopw [13] (fun i wr => ∃ k : Nat, k ≤ n ∧ i = .int .i64 (k : Int) ∧ Hid ((items.take k).all okIt = true) ∧ Hid (Ext W0 wr)) (fun i _ => n - (intOf i).toNat)
  case atStart => exact ⟨0, Nat.zero_le _, rfl, hid rfl, hid (Ext.refl _)⟩
  case round =>
    obtain ⟨k, hk, rfl, HA, HE⟩ := hrel
    by_cases hlt : k < n
    · have hkj : decide ((k : Int) < (n : Int)) = true := by simp; omega
      have hkj2 : (k : Int) < (n : Int) := by omega
      obtain ⟨g, rfl⟩ := HNN.out (by omega)
      have hltL : k < items.length := by rw [HN.out]; exact hlt
      have hc := fun j u h => (HE0.out.trans HE.out).cell (HC.out g rfl k hltL j u h)
      have HNX := hid (all_succ okIt items k hltL)
      have HNO : Hid (okIt (items[k]'hltL) = false → R = false) := hid (fun hp => by
        rw [← HR.out]
        unfold rightS
        rw [all_no okIt items k hltL hp]; rfl)
      obtain ⟨o, ho⟩ : ∃ o, items[k]'hltL = o := ⟨_, rfl⟩
      rw [ho] at hc HNX HNO
      obtain ⟨id, lane, st, cnt, due, tok, turn, seg, ps', size⟩ := o
      have k0 := cell_first (hc 0 _ rfl)
      have k1 := cell_next (hc 1 _ rfl) (by decide)
      have k2 := cell_next (hc 2 _ rfl) (by decide)
      have k3 := cell_next (hc 3 _ rfl) (by decide)
      have k4 := cell_next (hc 4 _ rfl) (by decide)
      have k5 := cell_next (hc 5 _ rfl) (by decide)
      have k6 := cell_next (hc 6 _ rfl) (by decide)
      have k7 := cell_next (hc 7 _ rfl) (by decide)
      have k8 := cell_next (hc 8 _ rfl) (by decide)
      have k9 := cell_next (hc 9 _ rfl) (by decide)
      obtain ⟨W1, hW1⟩ : ∃ W, wr.alloc (.cells #[uv id, .int .i64 lane, .int .i64 st, .int .i64 cnt, uv due, uv tok, uv turn, uv seg, uv ps', .int .i64 size] 69 (0, 0)) = W := ⟨_, rfl⟩
      have hE1 := Ext.alloc wr (.cells #[uv id, .int .i64 lane, .int .i64 st, .int .i64 cnt, uv due, uv tok, uv turn, uv seg, uv ps', .int .i64 size] 69 (0, 0))
      have hb1 := heap_alloc_new wr (.cells #[uv id, .int .i64 lane, .int .i64 st, .int .i64 cnt, uv due, uv tok, uv turn, uv seg, uv ps', .int .i64 size] 69 (0, 0))
      rw [hW1] at hE1 hb1
      obtain ⟨⟨m0, m1, m2, m3, m4, m5, m6, m7, m8, m9⟩, mf⟩ := blk10 hb1
      have HX1 := hid (HE.out.trans hE1)
      have HLK := hid hlt
      have hwk : IntKind.i64.wrap ((k : Int) + 1) = ((k + 1 : Nat) : Int) := i64v _ (by omega) (by omega)
      have HNX2 : Hid ((items.take (k + 1)).all okIt = (okN lane && (okN st && (okN cnt && okN size)))) := hid (by rw [HNX.out, HA.out]; rfl)
      have HNO2 : Hid ((okN lane && (okN st && (okN cnt && okN size))) = false → R = false) := hid HNO.out
      clear hc ho hE1 hb1 hltL hlt HE HNX HNO
      go_wp2_with rw [hW1]
      clear k0 k1 k2 k3 k4 k5 k6 k7 k8 k9 m0 m1 m2 m3 m4 m5 m6 m7 m8 m9 mf hW1 hkj
      go_loopw [29] (fun i wr => wr = W1 ∧ ((i = .int .i64 0) ∨ (i = .int .i64 1 ∧ Hid (okN lane = true)) ∨ (i = .int .i64 2 ∧ Hid (okN lane = true ∧ okN st = true)) ∨ (i = .int .i64 3 ∧ Hid (okN lane = true ∧ okN st = true ∧ okN cnt = true)) ∨ (i = .int .i64 4 ∧ Hid (okN lane = true ∧ okN st = true ∧ okN cnt = true ∧ okN size = true)))) (fun i _ => 4 - (intOf i).toNat)
      case atStart => exact ⟨rfl, .inl rfl⟩
      case round =>
        obtain ⟨rfl, rfl | ⟨rfl, HQ⟩ | ⟨rfl, HQ⟩ | ⟨rfl, HQ⟩ | ⟨rfl, HQ⟩⟩ := hrel
        · have hix := ix4_0 lane st cnt size
          by_cases h1 : lane < 0
          · have hd1 : decide (lane < 0) = true := by simp; exact h1
            have HF := hid (okN_lo h1)
            have HRF : Hid (R = false) := hid (HNO2.out (by simp [HF.out]))
            clear h1
            go_wp2_with (rw [hix])
            go_returns
            exact ⟨by rw [HRF.out]; first | done | rfl, HE0.out.trans HX1.out⟩
          have hd1 : decide (lane < 0) = false := by simp; omega
          by_cases h2 : 1000 < lane
          · have hd2 : decide (1000 < lane) = true := by simp; exact h2
            have HF := hid (okN_hi h2)
            have HRF : Hid (R = false) := hid (HNO2.out (by simp [HF.out]))
            clear h1 h2
            go_wp2_with (rw [hix])
            go_returns
            exact ⟨by rw [HRF.out]; first | done | rfl, HE0.out.trans HX1.out⟩
          have hd2 : decide (1000 < lane) = false := by simp; omega
          have HF := hid (okN_yes h1 h2)
          clear h1 h2
          go_wp2_with (rw [hix])
          go_roundw
          case rel => exact ⟨by first | rfl | trivial, .inr (.inl ⟨rfl, hid HF.out⟩)⟩
          case measure => simp [intOf]
        · have hix := ix4_1 lane st cnt size
          by_cases h1 : st < 0
          · have hd1 : decide (st < 0) = true := by simp; exact h1
            have HF := hid (okN_lo h1)
            have HRF : Hid (R = false) := hid (HNO2.out (by simp [HF.out, HQ.out]))
            clear h1
            go_wp2_with (rw [hix])
            go_returns
            exact ⟨by rw [HRF.out]; first | done | rfl, HE0.out.trans HX1.out⟩
          have hd1 : decide (st < 0) = false := by simp; omega
          by_cases h2 : 1000 < st
          · have hd2 : decide (1000 < st) = true := by simp; exact h2
            have HF := hid (okN_hi h2)
            have HRF : Hid (R = false) := hid (HNO2.out (by simp [HF.out, HQ.out]))
            clear h1 h2
            go_wp2_with (rw [hix])
            go_returns
            exact ⟨by rw [HRF.out]; first | done | rfl, HE0.out.trans HX1.out⟩
          have hd2 : decide (1000 < st) = false := by simp; omega
          have HF := hid (okN_yes h1 h2)
          clear h1 h2
          go_wp2_with (rw [hix])
          go_roundw
          case rel => exact ⟨by first | rfl | trivial, .inr (.inr (.inl ⟨rfl, hid ⟨HQ.out, HF.out⟩⟩))⟩
          case measure => simp [intOf]
        · have hix := ix4_2 lane st cnt size
          by_cases h1 : cnt < 0
          · have hd1 : decide (cnt < 0) = true := by simp; exact h1
            have HF := hid (okN_lo h1)
            have HRF : Hid (R = false) := hid (HNO2.out (by simp [HF.out, HQ.out.1, HQ.out.2]))
            clear h1
            go_wp2_with (rw [hix])
            go_returns
            exact ⟨by rw [HRF.out]; first | done | rfl, HE0.out.trans HX1.out⟩
          have hd1 : decide (cnt < 0) = false := by simp; omega
          by_cases h2 : 1000 < cnt
          · have hd2 : decide (1000 < cnt) = true := by simp; exact h2
            have HF := hid (okN_hi h2)
            have HRF : Hid (R = false) := hid (HNO2.out (by simp [HF.out, HQ.out.1, HQ.out.2]))
            clear h1 h2
            go_wp2_with (rw [hix])
            go_returns
            exact ⟨by rw [HRF.out]; first | done | rfl, HE0.out.trans HX1.out⟩
          have hd2 : decide (1000 < cnt) = false := by simp; omega
          have HF := hid (okN_yes h1 h2)
          clear h1 h2
          go_wp2_with (rw [hix])
          go_roundw
          case rel => exact ⟨by first | rfl | trivial, .inr (.inr (.inr (.inl ⟨rfl, hid ⟨HQ.out.1, HQ.out.2, HF.out⟩⟩)))⟩
          case measure => simp [intOf]
        · have hix := ix4_3 lane st cnt size
          by_cases h1 : size < 0
          · have hd1 : decide (size < 0) = true := by simp; exact h1
            have HF := hid (okN_lo h1)
            have HRF : Hid (R = false) := hid (HNO2.out (by simp [HF.out, HQ.out.1, HQ.out.2.1, HQ.out.2.2]))
            clear h1
            go_wp2_with (rw [hix])
            go_returns
            exact ⟨by rw [HRF.out]; first | done | rfl, HE0.out.trans HX1.out⟩
          have hd1 : decide (size < 0) = false := by simp; omega
          by_cases h2 : 1000 < size
          · have hd2 : decide (1000 < size) = true := by simp; exact h2
            have HF := hid (okN_hi h2)
            have HRF : Hid (R = false) := hid (HNO2.out (by simp [HF.out, HQ.out.1, HQ.out.2.1, HQ.out.2.2]))
            clear h1 h2
            go_wp2_with (rw [hix])
            go_returns
            exact ⟨by rw [HRF.out]; first | done | rfl, HE0.out.trans HX1.out⟩
          have hd2 : decide (1000 < size) = false := by simp; omega
          have HF := hid (okN_yes h1 h2)
          clear h1 h2
          go_wp2_with (rw [hix])
          go_roundw
          case rel => exact ⟨by first | rfl | trivial, .inr (.inr (.inr (.inr (⟨rfl, hid ⟨HQ.out.1, HQ.out.2.1, HQ.out.2.2, HF.out⟩⟩))))⟩
          case measure => simp [intOf]
        · go_wp2
          go_roundw
          case rel => exact ⟨k + 1, HLK.out, by first | rfl | go_num, hid (by rw [HNX2.out, HQ.out.1, HQ.out.2.1, HQ.out.2.2.1, HQ.out.2.2.2]; rfl), HX1⟩
          case measure => have := HLK.out; simp [intOf]; omega
    have hkf : decide ((k : Int) < (n : Int)) = false := by simp; omega
    have hkf2 : (k < n) = False := by simp; omega
    have HIT : Hid (items.all okIt = true) := hid (by have h := HA.out; rwa [List.take_of_length_le (by rw [HN.out]; omega)] at h)
    obtain ⟨⟨b0, b1, b2, b3, b4, b5, b6, b7, b8, b9⟩, bf⟩ := blk10 (HE.out.obj HB0.out)
    clear hlt hk HA HC HNN
    go_wp2
    clear hkf hkf2 b0 b1 b2 b3 b4 b5 b6 b7 b8 b9 bf
    go_loopw [44] (fun i wr => ∃ k : Nat, k ≤ m ∧ i = .int .i64 (k : Int) ∧ Hid ((curs.take k).all (fun c => decide (c.1.length ≤ 64)) = true) ∧ Hid (Ext W0 wr)) (fun i _ => m - (intOf i).toNat)
    case atStart => exact ⟨0, Nat.zero_le _, rfl, hid rfl, HE⟩
    case round =>
      clear HE
      obtain ⟨k, hk, rfl, HA, HE⟩ := hrel
      by_cases hlt : k < m
      · have hkj : decide ((k : Int) < (m : Int)) = true := by simp; omega
        have hkj2 : (k : Int) < (m : Int) := by omega
        obtain ⟨g, rfl⟩ := HNN2.out (by omega)
        have hltL : k < curs.length := by rw [HM.out]; exact hlt
        have hc := fun j u h => (HE0.out.trans HE.out).cell (HC2.out g rfl k hltL j u h)
        have HNX := hid (all_succ (fun c : List UInt8 × UInt64 => decide (c.1.length ≤ 64)) curs k hltL)
        have HNO : Hid (decide ((curs[k]'hltL).1.length ≤ 64) = false → R = false) := hid (fun hp => by
          rw [← HR.out]
          unfold rightS
          rw [all_no (fun c : List UInt8 × UInt64 => decide (c.1.length ≤ 64)) curs k hltL hp, Bool.and_false])
        obtain ⟨o, ho⟩ : ∃ o, curs[k]'hltL = o := ⟨_, rfl⟩
        rw [ho] at hc HNX HNO
        obtain ⟨nm, pl⟩ := o
        have k0 := cell_first (hc 0 _ rfl)
        have k1 := cell_next (hc 1 _ rfl) (by decide)
        obtain ⟨W1, hW1⟩ : ∃ W, wr.alloc (.cells #[.string (str nm), uv pl] 77 (0, 0)) = W := ⟨_, rfl⟩
        have hE1 := Ext.alloc wr (.cells #[.string (str nm), uv pl] 77 (0, 0))
        have hb1 := heap_alloc_new wr (.cells #[.string (str nm), uv pl] 77 (0, 0))
        rw [hW1] at hE1 hb1
        have m0 : W1.cell? ⟨wr.heap.size, 0, none⟩ = some (.string (str nm)) := by rw [cell_of_row _ _ _ _ _ _ hb1]; rfl
        have m1 : W1.cell? ⟨wr.heap.size, 1, none⟩ = some (uv pl) := by rw [cell_of_row _ _ _ _ _ _ hb1]; rfl
        have HX1 := hid (HE.out.trans hE1)
        have HLK := hid hlt
        have hwk : IntKind.i64.wrap ((k : Int) + 1) = ((k + 1 : Nat) : Int) := i64v _ (by omega) (by omega)
        have HNX2 : Hid ((curs.take (k + 1)).all (fun c => decide (c.1.length ≤ 64)) = decide (nm.length ≤ 64)) := hid (by rw [HNX.out, HA.out]; rfl)
        have HNO2 : Hid (decide (nm.length ≤ 64) = false → R = false) := hid HNO.out
        clear hc ho hE1 hb1 hltL hlt HE HNX HNO
        by_cases hl : 64 < nm.length
        · have hd1 : decide ((64 : Int) < ((str nm).size : Int)) = true := by rw [str_size]; simp; omega
          have HRF : Hid (R = false) := hid (HNO2.out (by simp; omega))
          clear hl
          go_wp2_with rw [hW1]
          go_returns
          exact ⟨by rw [HRF.out]; first | done | rfl, HE0.out.trans HX1.out⟩
        have hd1 : decide ((64 : Int) < ((str nm).size : Int)) = false := by rw [str_size]; simp; omega
        have hd2 : (64 < (str nm).size) = False := by rw [str_size]; simp; omega
        have HLE : Hid (nm.length ≤ 64) := hid (by omega)
        clear hl
        go_wp2_with rw [hW1]
        go_roundw
        case rel => exact ⟨k + 1, HLK.out, by first | rfl | go_num, hid (by rw [HNX2.out]; exact decide_eq_true HLE.out), HX1⟩
        case measure => have := HLK.out; simp [intOf]; omega
      have hkf : decide ((k : Int) < (m : Int)) = false := by simp; omega
      have hkf2 : (k < m) = False := by simp; omega
      have hr1 : R = true := by
        rw [← HR.out]
        unfold rightS
        have h := HA.out
        rw [List.take_of_length_le (by rw [HM.out]; omega)] at h
        rw [HIT.out, h]; rfl
      subst hr1
      clear hlt hk HA
      go_wp2
      go_returns
      exact ⟨by first | rfl | simp, HE0.out.trans HE.out⟩
end Go.Proofs.YtpbmbjdiilnaeaaDoor

set_option linter.unusedSimpArgs false
set_option linter.unusedVariables false
set_option maxRecDepth 100000
namespace Go.Proofs.YtpbmbjdiilnaeaaDoor
open Go Go.RowKit Go.Tum Go.ChangeMaps Go.Sort Go.Tum.Vint Go.Tum.Crc

abbrev pv (b : Nat) : Value := .pointer (some ⟨b, 0, none⟩)
def oB (v : Value) : List Nat := match v.ownBlock with | some g => [g] | none => []
theorem oB_own {v : Value} {g : Nat} (h : v.ownBlock = some g) : oB v = [g] := by unfold oB; rw [h]
theorem fr_grown {w w' : World} {b : Nat} {v : Value} (k : w.grownBy w' v.ownBlock) (e : Below b w w') : Fr (oB v) w w' :=
  ⟨e.os, e.tape, e.output, e.size, fun j hj hn => k.block j hj fun h => hn (by rw [oB_own h.symm]; simp)⟩
theorem owns_set {w : World} {base e size n p k : Nat} {v u : Value} {xs : List Value} {cs : Array Value} {ty : TypeId} {fr : Nat × Nat} (h : w.ownsRow base e size v n xs) (hb : w.heap[p]? = some (.cells cs ty fr)) (hne : e ≠ ty) :
    (w.setCell ⟨p, k, none⟩ u).ownsRow base e size v n xs := by
  obtain ⟨h0, h1⟩ := h
  refine ⟨h0, ?_⟩
  rcases h1 with h1 | ⟨g, cap, cur, e1, e2, e3, e4⟩
  · exact .inl h1
  · refine .inr ⟨g, cap, cur, e1, e2, ?_, e4⟩
    have hgp : p ≠ g := fun x => by
      subst x
      rw [hb] at e3
      simp only [Option.some.injEq, Obj.cells.injEq] at e3
      exact hne e3.2.1.symm
    rw [← e3]
    exact heap_setCell_other _ _ _ _ (fun x => hgp x.symm)
theorem RcsO.set {w : World} {base T p k : Nat} {v u : Value} {l : List Rc} {cs : Array Value} {ty : TypeId} {fr : Nat × Nat} (h : RcsO w base T v l) (hb : w.heap[p]? = some (.cells cs ty fr)) (h1 : T ≠ ty) (h2 : 22 ≠ ty) :
    RcsO (w.setCell ⟨p, k, none⟩ u) base T v l := by
  obtain ⟨m, hm, k2, k3⟩ := h
  exact ⟨m, hm, owns_set k2 hb h1, fun q hq => owns_set (k3 q hq) hb h2⟩
theorem RcsO.notIn {w : World} {base T p : Nat} {v : Value} {l : List Rc} {cs : Array Value} {ty : TypeId} {fr : Nat × Nat} (h : RcsO w base T v l) (hb : w.heap[p]? = some (.cells cs ty fr)) (h1 : T ≠ ty) : p ∉ oB v := by
  obtain ⟨m, hm, k2, k3⟩ := h
  rcases k2.2 with ⟨e, -⟩ | ⟨g, cap, cur, e1, e2, e3, e4⟩
  · subst e; simp [oB, Value.ownBlock]
  · subst e1
    intro hp
    simp [oB, Value.ownBlock] at hp
    subst hp
    rw [hb] at e3
    simp only [Option.some.injEq, Obj.cells.injEq] at e3
    exact h1 e3.2.1.symm
set_option maxHeartbeats 4000000 in
theorem put_any {base : Nat} (p : Nat) (kind : Int) (text : List UInt8) (nv v : Value) (ns : List UInt64) (l : List Rc) (w : World)
    (hb : w.heap[p]? = some (.cells #[v] 82 (0, 0))) (hp : base ≤ p) (ho : RcsO w base 62 v l) (hn : OwV uv w base 22 nv ns) (hl : l.length + 1 ≤ 1000000) (hbs : base ≤ w.heap.size) :
    Calls Tryd.prog 23 #[pv p, .int .i64 kind, .string (str text), nv] w fun e w' => (∃ u, e = .returned u) ∧
      ∃ v', w'.heap[p]? = some (.cells #[v'] 82 (0, 0)) ∧ RcsO w' base 62 v' (l ++ [⟨kind, ns, text⟩]) ∧ Below base w w' ∧ Fr (p :: oB v) w w' := by
  have c0 : w.cell? ⟨p, 0, none⟩ = some v := by rw [cell_of_row _ _ _ _ _ _ hb]; rfl
  have HB := hid hb
  have HO := hid ho
  have HN := hid hn
  have HP := hid hp
  obtain ⟨ao, cap, rfl⟩ := ho.open
  obtain ⟨no, nc, rfl, -⟩ := hn.vec.open
  have hE1 := Ext.alloc w (.cells #[.int .i64 kind, .slice no ns.length nc, .string (str text)] 62)
  have hb1 := heap_alloc_new w (.cells #[.int .i64 kind, .slice no ns.length nc, .string (str text)] 62)
  have HE1 := hid hE1
  have HB1 := hid hb1
  have HS := hid hbs
  have HNI := hid (RcsO.notIn ho hb (by decide))
  clear hb hp ho hn hE1 hb1 hbs
  go_enter Tryd.func23, Tryd.ntmps23
  go_wp2_with (at_builtin; go_loud (refine wpList_append_rc rfl (.tmp 12) (.tmp 17) 30 rfl base 62 Tryd.underlying30 infoRc (by decide) rfl (HO.out.ext HE1.out) (y := ⟨kind, ns, text⟩) rfl HB1.out (HN.out.ext HE1.out) (l.length + 1) rfl (by omega) (Nat.le_trans HS.out HE1.out.size) ?_; intro ao3 cap3 w3 hO3 hg3 hb3; have HF3 := hid (fr_grown hg3 hb3); have HB3 : Hid (w3.heap[p]? = some (.cells #[.slice ao l.length cap] 82 (0, 0))) := hid (by rw [HF3.out.block p (Nat.lt_of_lt_of_le (Array.getElem?_eq_some_iff.1 HB.out).1 HE1.out.size) HNI.out]; exact HE1.out.obj HB.out); have c3 : w3.cell? ⟨p, 0, none⟩ = some (.slice ao l.length cap) := (by rw [cell_of_row _ _ _ _ _ _ HB3.out]; rfl); have f3 : w3.frozen? ⟨p, 0, none⟩ = false := (by simp [World.frozen?, HB3.out]); have HO3 := hid hO3; have HBL := hid hb3; clear hO3 hg3 hb3))
  go_returns
  refine ⟨⟨_, rfl⟩, .slice ao3 (l.length + 1) cap3, ?_, HO3.out.set HB3.out (by decide) (by decide), ?_, ?_⟩
  · have := Go.Joins.block_setCell (i := 0) HB3.out (.slice ao3 (l.length + 1) cap3)
    simpa using this
  · exact (Below.trans (Below.mono HE1.out HS.out) HBL.out).setCell (by exact HP.out) _
  · exact ((Ext.fr HE1.out).trans (HF3.out.mono fun x hx => List.mem_cons_of_mem _ hx)).trans (fr_setCell _ _ _ (by simp))
end Go.Proofs.YtpbmbjdiilnaeaaDoor

set_option linter.unusedSimpArgs false
set_option linter.unusedVariables false
set_option maxRecDepth 100000
namespace Go.Proofs.YtpbmbjdiilnaeaaDoor
open Go Go.RowKit Go.Tum Go.ChangeMaps Go.Sort Go.Tum.Vint Go.Tum.Crc

def u64i (n : Int) : UInt64 := UInt64.ofNat n.toNat
theorem okN_u {n : Int} (h : okN n = true) : ∃ a : UInt64, (a.toNat : Int) = n ∧ u64i n = a ∧ a.toNat ≤ 1000 := by
  have h' : 0 ≤ n ∧ n ≤ 1000 := by unfold okN at h; simpa using h
  refine ⟨UInt64.ofNat n.toNat, ?_, rfl, ?_⟩
  · rw [UInt64.toNat_ofNat', Nat.mod_eq_of_lt (by omega)]; omega
  · rw [UInt64.toNat_ofNat', Nat.mod_eq_of_lt (by omega)]; omega
theorem wrapU_u (a : UInt64) : IntKind.u64.wrap (a.toNat : Int) = (a.toNat : Int) := by
  rw [IntKind.wrap_u64]
  have := a.toNat_lt
  omega
/-- The records of a snapshot. -/
def baseRc (s : Snp) : Rc := ⟨13, [s.now, s.next, s.lea, s.trn, s.dth, s.seg, s.ps], []⟩
def liveRc (o : Itm) : Rc := ⟨14, [o.id, u64i o.lane, u64i o.st, u64i o.cnt, o.due, o.tok, o.turn, o.seg, o.ps, u64i o.size], []⟩
def deadRc (p : UInt64 × UInt64) : Rc := ⟨15, [p.1, p.2], []⟩
def curRc (c : List UInt8 × UInt64) : Rc := ⟨16, [c.2], c.1⟩
def bodyR (s : Snp) : List Rc := [baseRc s] ++ s.items.map liveRc ++ s.dead.map deadRc ++ s.curs.map curRc
def saveR (s : Snp) : List Rc := bodyR s ++ [⟨17, [UInt64.ofNat (bodyR s).length], []⟩]
/-- What Save holds while it puts records down. -/
structure SvS (w0 w : World) (p b0 st : Nat) (C D : Array Value) (l : List Rc) : Prop where
  ex : ∃ v, w.heap[p]? = some (.cells #[v] 82 (0, 0)) ∧ RcsO w w0.heap.size 62 v l
  lp : w0.heap.size ≤ p
  box : w.heap[b0]? = some (.cells C 29 (0, 0))
  stt : w.heap[st]? = some (.cells D 27 (0, 0))
  low : Ext w0 w
theorem SvS.ext {w0 w w' : World} {p b0 st : Nat} {C D : Array Value} {l : List Rc} (h : SvS w0 w p b0 st C D l) (k : Ext w w') : SvS w0 w' p b0 st C D l := by
  obtain ⟨v, h1, h2⟩ := h.ex
  exact ⟨⟨v, k.obj h1, h2.ext k⟩, h.lp, k.obj h.box, k.obj h.stt, h.low.trans k⟩
theorem SvS.put {w0 w : World} {p b0 st : Nat} {C D : Array Value} {l : List Rc} (h : SvS w0 w p b0 st C D l) (kind : Int) (text : List UInt8) (nv : Value) (ns : List UInt64) (hn : OwV uv w w0.heap.size 22 nv ns) (hl : l.length + 1 ≤ 1000000) :
    Calls Tryd.prog 23 #[pv p, .int .i64 kind, .string (str text), nv] w fun e w' => (∃ u, e = .returned u) ∧ SvS w0 w' p b0 st C D (l ++ [⟨kind, ns, text⟩]) := by
  obtain ⟨v, h1, h2⟩ := h.ex
  refine (put_any p kind text nv v ns l w h1 h.lp h2 hn hl h.low.size).mono ?_
  rintro e w' ⟨hu, v', k1, k2, k3, k4⟩
  have hne : ∀ {q : Nat} {cs : Array Value} {ty : TypeId}, w.heap[q]? = some (.cells cs ty (0, 0)) → 82 ≠ ty → 62 ≠ ty → w'.heap[q]? = some (.cells cs ty (0, 0)) := fun {q cs ty} hq e1 e2 => by
    rw [k4.block q (Array.getElem?_eq_some_iff.1 hq).1 (fun hm => by
      rcases List.mem_cons.1 hm with rfl | hm
      · rw [h1] at hq
        simp only [Option.some.injEq, Obj.cells.injEq] at hq
        exact e1 hq.2.1
      · exact RcsO.notIn h2 hq e2 hm)]
    exact hq
  exact ⟨hu, ⟨v', k1, k2⟩, h.lp, hne h.box (by decide) (by decide), hne h.stt (by decide) (by decide), h.low.below k3⟩

theorem blk8s {w : World} {b : Nat} {v0 v1 v2 v3 v4 v5 v6 v7 : Value} {ty : TypeId} (h : w.heap[b]? = some (.cells #[v0, v1, v2, v3, v4, v5, v6, v7] ty (0, 0))) :
    (w.cell? ⟨b, 0, none⟩ = some v0 ∧ w.cell? ⟨b, 1, none⟩ = some v1 ∧ w.cell? ⟨b, 2, none⟩ = some v2 ∧ w.cell? ⟨b, 3, none⟩ = some v3 ∧ w.cell? ⟨b, 4, none⟩ = some v4 ∧ w.cell? ⟨b, 5, none⟩ = some v5 ∧ w.cell? ⟨b, 6, none⟩ = some v6 ∧ w.cell? ⟨b, 7, none⟩ = some v7) ∧ ∀ i, w.frozen? ⟨b, i, none⟩ = false := by
  refine ⟨⟨?_, ?_, ?_, ?_, ?_, ?_, ?_, ?_⟩, fun i => by simp [World.frozen?, h]⟩ <;> (rw [cell_of_row _ _ _ _ _ _ h]; rfl)
set_option maxHeartbeats 8000000 in
theorem save_any (s : Snp) (vi vd vc : Value) (w : World) (h : SnpIn w s vi vd vc) (hl : s.items.length ≤ 100000 ∧ s.dead.length ≤ 100000 ∧ s.curs.length ≤ 100000) :
    Calls Tryd.prog 10 #[.agg (snpC s vi vd vc)] w fun e w' => (if rightS s = true then ∃ v, e = .returned (.tuple #[v, .int .i64 0]) ∧ RcsO w' w.heap.size 62 v (saveR s) else e = .returned (.tuple #[.slice none 0 0, .int .i64 1])) ∧ Ext w w' := by
  have hcr := fun w' (k : Ext w w') => sright_any s vi vd vc w' (h.ext k)
  obtain ⟨R, hR⟩ : ∃ R, rightS s = R := ⟨_, rfl⟩
  have HR : Hid (rightS s = R) := hid hR
  rw [hR] at hcr ⊢
  obtain ⟨io, ic, rfl, hile, himx, hinn, hicell⟩ := h.it.open
  obtain ⟨do_, dc, rfl, hdle, hdmx, hdnn, hdcell⟩ := h.dd.open
  obtain ⟨co, cc, rfl, hcle, hcmx, hcnn, hccell⟩ := h.cu.open
  have HIC := hid hicell
  have HINN := hid hinn
  have HDC := hid hdcell
  have HDNN := hid hdnn
  have HCC := hid hccell
  have HCNN := hid hcnn
  have HSV : Hid (saveR s = saveR s) := hid rfl
  obtain ⟨S, hS⟩ : ∃ S, s = S := ⟨_, rfl⟩
  have HSS := hid hS
  obtain ⟨now, next, lea, trn, dth, items, dead, curs, sg, ps⟩ := s
  obtain ⟨n, hn⟩ : ∃ n, items.length = n := ⟨_, rfl⟩
  obtain ⟨nd, hnd⟩ : ∃ n, dead.length = n := ⟨_, rfl⟩
  obtain ⟨m, hm⟩ : ∃ n, curs.length = n := ⟨_, rfl⟩
  unfold snpC at hcr ⊢
  dsimp only at hile hdle hcle hl HIC HDC HCC hcr ⊢
  rw [hn] at hile hl hcr ⊢
  rw [hnd] at hdle hl hcr ⊢
  rw [hm] at hcle hl hcr ⊢
  have HN := hid hn
  have HND := hid hnd
  have HM := hid hm
  have HCR := hid hcr
  rw [hS]
  have HL := hid hl
  obtain ⟨W0, hW0⟩ : ∃ W, w.alloc (.cells #[uv now, uv next, uv lea, uv trn, uv dth, .slice io n ic, .slice do_ nd dc, .slice co m cc, uv sg, uv ps] 29 (0, 0)) = W := ⟨_, rfl⟩
  have hE0 := Ext.alloc w (.cells #[uv now, uv next, uv lea, uv trn, uv dth, .slice io n ic, .slice do_ nd dc, .slice co m cc, uv sg, uv ps] 29 (0, 0))
  have hb0 := heap_alloc_new w (.cells #[uv now, uv next, uv lea, uv trn, uv dth, .slice io n ic, .slice do_ nd dc, .slice co m cc, uv sg, uv ps] 29 (0, 0))
  rw [hW0] at hE0 hb0
  have HE0 := hid hE0
  have HB0 := hid hb0
  obtain ⟨⟨b0, b1, b2, b3, b4, b5, b6, b7, b8, b9⟩, bf⟩ := blk10 hb0
  clear h hinn hicell hdnn hdcell hcnn hccell hn hnd hm hR hE0 hb0 hcr hS hl
  go_enter Tryd.func10, Tryd.ntmps10
  go_wp2_with rw [hW0]
  refine (HCR.out W0 HE0.out).mono ?_
  rintro e w1 ⟨rfl, hx⟩
  have HB1 := hid (hx.obj HB0.out)
  have HE1 := hid (HE0.out.trans hx)
  clear hx HCR hW0 b0 b1 b2 b3 b4 b5 b6 b7 b8 b9 bf HB0
  cases R
  case false =>
    go_wp2
    go_returns
    exact ⟨by first | rfl | simp, HE1.out⟩
  obtain ⟨W2, hW2⟩ : ∃ W, w1.alloc (.cells #[.slice none 0 0] 82 (0, 0)) = W := ⟨_, rfl⟩
  have hE2 := Ext.alloc w1 (.cells #[.slice none 0 0] 82 (0, 0))
  have hb2 := heap_alloc_new w1 (.cells #[.slice none 0 0] 82 (0, 0))
  rw [hW2] at hE2 hb2
  have hx2 := hE2.obj HB1.out
  obtain ⟨W3, hW3⟩ : ∃ W, W2.alloc (.cells #[uv now, uv next, uv lea, uv trn, uv dth, .slice io n ic, .slice do_ nd dc, .slice co m cc] 27 (0, 0)) = W := ⟨_, rfl⟩
  have hE3 := Ext.alloc W2 (.cells #[uv now, uv next, uv lea, uv trn, uv dth, .slice io n ic, .slice do_ nd dc, .slice co m cc] 27 (0, 0))
  have hb3 := heap_alloc_new W2 (.cells #[uv now, uv next, uv lea, uv trn, uv dth, .slice io n ic, .slice do_ nd dc, .slice co m cc] 27 (0, 0))
  rw [hW3] at hE3 hb3
  have HS3 : Hid (SvS w W3 w1.heap.size w.heap.size W2.heap.size #[uv now, uv next, uv lea, uv trn, uv dth, .slice io n ic, .slice do_ nd dc, .slice co m cc, uv sg, uv ps] #[uv now, uv next, uv lea, uv trn, uv dth, .slice io n ic, .slice do_ nd dc, .slice co m cc] []) :=
    hid ⟨⟨_, hE3.obj hb2, RcsO.nil _ _ _⟩, HE1.out.size, hE3.obj hx2, hb3, HE1.out.trans (hE2.trans hE3)⟩
  obtain ⟨⟨b0, b1, b2, b3, b4, b5, b6, b7, b8, b9⟩, bf⟩ := blk10 hx2
  obtain ⟨⟨c0, c1, c2, c3, c4, c5, c6, c7, c8, c9⟩, cf⟩ := blk10 (hE3.obj hx2)
  obtain ⟨⟨d0, d1, d2, d3, d4, d5, d6, d7⟩, df⟩ := blk8s hb3
  obtain ⟨p, hp⟩ : ∃ p, w1.heap.size = p := ⟨_, rfl⟩
  have HPP := hid hp
  clear hE2 hb2 hx2 hE3 hb3 HB1 hp
  go_wp2_with (first | rw [hW2] | rw [hW3])
  have HC4 := hid ((HS3.out.ext (Ext.alloc W3 (.cells #[uv now, uv next, uv lea, uv trn, uv dth, uv sg, uv ps] 22))).put 13 [] _ [now, next, lea, trn, dth, sg, ps] (owv_lit W3 w.heap.size 22 [now, next, lea, trn, dth, sg, ps] #[uv now, uv next, uv lea, uv trn, uv dth, uv sg, uv ps] rfl 7 rfl HS3.out.low.size (by simp [maxLen])) (by simp))
  refine HC4.out.mono ?_
  rintro e w4 ⟨⟨u4, rfl⟩, hs⟩
  obtain ⟨q0, hq0⟩ : ∃ q, W2.heap.size = q := ⟨_, rfl⟩
  obtain ⟨B0, hB0⟩ : ∃ q, w.heap.size = q := ⟨_, rfl⟩
  have HSX : Hid (SvS w w4 w1.heap.size w.heap.size W2.heap.size #[uv now, uv next, uv lea, uv trn, uv dth, .slice io n ic, .slice do_ nd dc, .slice co m cc, uv sg, uv ps] #[uv now, uv next, uv lea, uv trn, uv dth, .slice io n ic, .slice do_ nd dc, .slice co m cc] [baseRc ⟨now, next, lea, trn, dth, items, dead, curs, sg, ps⟩]) := hid hs
  obtain ⟨⟨e0, e1, e2, e3, e4, e5, e6, e7⟩, ef⟩ := blk8s HSX.out.stt
  obtain ⟨LB, hLB⟩ : ∃ l, [baseRc ⟨now, next, lea, trn, dth, items, dead, curs, sg, ps⟩] = l := ⟨_, rfl⟩
  have HLB := hid hLB
  have HLBn : Hid (LB.length = 1) := hid (by rw [← hLB]; rfl)
  rw [hLB] at HSX
  have HRA : Hid (items.all okIt = true) := hid (by have h := HR.out; unfold rightS at h; rw [Bool.and_eq_true] at h; exact h.1)
  clear hs HC4 HS3 b0 b1 b2 b3 b4 b5 b6 b7 b8 b9 bf c0 c1 c2 c3 c4 c5 c6 c7 c8 c9 cf d0 d1 d2 d3 d4 d5 d6 d7 df hW2 hW3 hq0 hB0 hLB
  go_wp2
  clear e0 e1 e2 e3 e4 e5 e6 e7 ef
  go_loopw [43] (fun i wr => ∃ k : Nat, k ≤ n ∧ i = .int .i64 (k : Int) ∧ Hid (SvS w wr w1.heap.size w.heap.size W2.heap.size #[uv now, uv next, uv lea, uv trn, uv dth, .slice io n ic, .slice do_ nd dc, .slice co m cc, uv sg, uv ps] #[uv now, uv next, uv lea, uv trn, uv dth, .slice io n ic, .slice do_ nd dc, .slice co m cc] (LB ++ (items.take k).map liveRc))) (fun i _ => n - (intOf i).toNat)
  case atStart => exact ⟨0, Nat.zero_le _, rfl, hid (by simpa using HSX.out)⟩
  case round =>
    clear HSX
    obtain ⟨k, hk, rfl, HS⟩ := hrel
    by_cases hlt : k < n
    · have hkj : decide ((k : Int) < (n : Int)) = true := by simp; omega
      have hkj2 : (k : Int) < (n : Int) := by omega
      obtain ⟨g, rfl⟩ := HINN.out (by omega)
      have hltL : k < items.length := by rw [HN.out]; exact hlt
      have hc := fun j u h => HS.out.low.cell (HIC.out g rfl k hltL j u h)
      have hok : okIt (items[k]'hltL) = true := List.all_eq_true.1 HRA.out _ (List.getElem_mem hltL)
      have HTK : Hid (LB ++ (items.take (k + 1)).map liveRc = (LB ++ (items.take k).map liveRc) ++ [liveRc (items[k]'hltL)]) := hid (by rw [List.take_succ_eq_append_getElem hltL, List.map_append, List.append_assoc]; rfl)
      have hTL : (LB ++ (items.take k).map liveRc).length = k + 1 := by rw [List.length_append, List.length_map, List.length_take, HLBn.out]; omega
      obtain ⟨T, hT⟩ : ∃ T, LB ++ (items.take k).map liveRc = T := ⟨_, rfl⟩
      rw [hT] at HS HTK hTL
      have HTL := hid hTL
      obtain ⟨o, ho⟩ : ∃ o, items[k]'hltL = o := ⟨_, rfl⟩
      rw [ho] at hc HTK hok
      obtain ⟨id, lane, st, cnt, due, tok, turn, seg, ps', size⟩ := o
      unfold okIt at hok
      simp only [Bool.and_eq_true] at hok
      obtain ⟨a1, rfl, hu1, hb1⟩ := okN_u hok.1
      obtain ⟨a2, rfl, hu2, hb2⟩ := okN_u hok.2.1
      obtain ⟨a3, rfl, hu3, hb3⟩ := okN_u hok.2.2.1
      obtain ⟨a4, rfl, hu4, hb4⟩ := okN_u hok.2.2.2
      have HLV : Hid (liveRc ⟨id, (a1.toNat : Int), (a2.toNat : Int), (a3.toNat : Int), due, tok, turn, seg, ps', (a4.toNat : Int)⟩ = ⟨14, [id, a1, a2, a3, due, tok, turn, seg, ps', a4], []⟩) := hid (by unfold liveRc; rw [hu1, hu2, hu3, hu4])
      have wr1 := wrapU_u a1
      have wr2 := wrapU_u a2
      have wr3 := wrapU_u a3
      have wr4 := wrapU_u a4
      have k0 := cell_first (hc 0 _ rfl)
      have k1 := cell_next (hc 1 _ rfl) (by decide)
      have k2 := cell_next (hc 2 _ rfl) (by decide)
      have k3 := cell_next (hc 3 _ rfl) (by decide)
      have k4 := cell_next (hc 4 _ rfl) (by decide)
      have k5 := cell_next (hc 5 _ rfl) (by decide)
      have k6 := cell_next (hc 6 _ rfl) (by decide)
      have k7 := cell_next (hc 7 _ rfl) (by decide)
      have k8 := cell_next (hc 8 _ rfl) (by decide)
      have k9 := cell_next (hc 9 _ rfl) (by decide)
      obtain ⟨V1, hV1⟩ : ∃ W, wr.alloc (.cells #[uv id, .int .i64 (a1.toNat : Int), .int .i64 (a2.toNat : Int), .int .i64 (a3.toNat : Int), uv due, uv tok, uv turn, uv seg, uv ps', .int .i64 (a4.toNat : Int)] 69 (0, 0)) = W := ⟨_, rfl⟩
      have hE1 := Ext.alloc wr (.cells #[uv id, .int .i64 (a1.toNat : Int), .int .i64 (a2.toNat : Int), .int .i64 (a3.toNat : Int), uv due, uv tok, uv turn, uv seg, uv ps', .int .i64 (a4.toNat : Int)] 69 (0, 0))
      have hn1 := heap_alloc_new wr (.cells #[uv id, .int .i64 (a1.toNat : Int), .int .i64 (a2.toNat : Int), .int .i64 (a3.toNat : Int), uv due, uv tok, uv turn, uv seg, uv ps', .int .i64 (a4.toNat : Int)] 69 (0, 0))
      rw [hV1] at hE1 hn1
      obtain ⟨⟨m0, m1, m2, m3, m4, m5, m6, m7, m8, m9⟩, mf⟩ := blk10 hn1
      obtain ⟨V2, hV2⟩ : ∃ W, V1.alloc (.cells #[.int .i64 (a2.toNat : Int), .int .i64 (a3.toNat : Int), uv due, uv tok] 65 (0, 0)) = W := ⟨_, rfl⟩
      have hE2 := Ext.alloc V1 (.cells #[.int .i64 (a2.toNat : Int), .int .i64 (a3.toNat : Int), uv due, uv tok] 65 (0, 0))
      have hn2 := heap_alloc_new V1 (.cells #[.int .i64 (a2.toNat : Int), .int .i64 (a3.toNat : Int), uv due, uv tok] 65 (0, 0))
      rw [hV2] at hE2 hn2
      obtain ⟨⟨x0, x1, x2, x3, x4, x5, x6, x7, x8, x9⟩, xf⟩ := blk10 (hE2.obj hn1)
      have y0 : V2.cell? ⟨V1.heap.size, 0, none⟩ = some (.int .i64 (a2.toNat : Int)) := by rw [cell_of_row _ _ _ _ _ _ hn2]; rfl
      have y1 : V2.cell? ⟨V1.heap.size, 1, none⟩ = some (.int .i64 (a3.toNat : Int)) := by rw [cell_of_row _ _ _ _ _ _ hn2]; rfl
      have y2 : V2.cell? ⟨V1.heap.size, 2, none⟩ = some (uv due) := by rw [cell_of_row _ _ _ _ _ _ hn2]; rfl
      have y3 : V2.cell? ⟨V1.heap.size, 3, none⟩ = some (uv tok) := by rw [cell_of_row _ _ _ _ _ _ hn2]; rfl
      have HS2 := hid (HS.out.ext (hE1.trans hE2))
      have HLK := hid hlt
      have hwk : IntKind.i64.wrap ((k : Int) + 1) = ((k + 1 : Nat) : Int) := i64v _ (by omega) (by have := HL.out; omega)
      have HC5 := hid ((HS2.out.ext (Ext.alloc V2 (.cells #[uv id, uv a1, uv a2, uv a3, uv due, uv tok, uv turn, uv seg, uv ps', uv a4] 22))).put 14 [] _ [id, a1, a2, a3, due, tok, turn, seg, ps', a4] (owv_lit V2 w.heap.size 22 [id, a1, a2, a3, due, tok, turn, seg, ps', a4] #[uv id, uv a1, uv a2, uv a3, uv due, uv tok, uv turn, uv seg, uv ps', uv a4] rfl 10 rfl HS2.out.low.size (by simp [maxLen])) (by rw [HTL.out]; have := HL.out; omega))
      clear hc ho hE1 hn1 hE2 hn2 hltL hlt HS hT hTL hok hu1 hu2 hu3 hu4 hb1 hb2 hb3 hb4
      go_wp2_with (first | rw [hV1] | rw [hV2])
      refine HC5.out.mono ?_
      rintro e w5 ⟨⟨u5, rfl⟩, hs⟩
      have HS5 := hid hs
      clear hs HC5 HS2 k0 k1 k2 k3 k4 k5 k6 k7 k8 k9 m0 m1 m2 m3 m4 m5 m6 m7 m8 m9 mf x0 x1 x2 x3 x4 x5 x6 x7 x8 x9 xf y0 y1 y2 y3 hV1 hV2 wr1 wr2 wr3 wr4
      go_wp2
      go_roundw
      case rel => exact ⟨k + 1, HLK.out, by first | rfl | go_num, hid (by rw [HTK.out, HLV.out]; exact HS5.out)⟩
      case measure => have := HLK.out; simp [intOf]; omega
    have hkf : decide ((k : Int) < (n : Int)) = false := by simp; omega
    have hkf2 : (k < n) = False := by simp; omega
    have htk : items.take k = items := List.take_of_length_le (by rw [HN.out]; omega)
    rw [htk] at HS
    have hL1n : (LB ++ items.map liveRc).length = n + 1 := by rw [List.length_append, List.length_map, HLBn.out, HN.out]; omega
    obtain ⟨L1, hL1⟩ : ∃ l, LB ++ items.map liveRc = l := ⟨_, rfl⟩
    rw [hL1] at HS hL1n
    have HL1 := hid hL1
    have HL1n := hid hL1n
    obtain ⟨⟨e0, e1, e2, e3, e4, e5, e6, e7⟩, ef⟩ := blk8s HS.out.stt
    clear hlt hk htk hL1 hL1n
    go_wp2
    clear e0 e1 e2 e3 e4 e5 e6 e7 ef hkf hkf2
    go_loopw [83] (fun i wr => ∃ k : Nat, k ≤ nd ∧ i = .int .i64 (k : Int) ∧ Hid (SvS w wr w1.heap.size w.heap.size W2.heap.size #[uv now, uv next, uv lea, uv trn, uv dth, .slice io n ic, .slice do_ nd dc, .slice co m cc, uv sg, uv ps] #[uv now, uv next, uv lea, uv trn, uv dth, .slice io n ic, .slice do_ nd dc, .slice co m cc] (L1 ++ (dead.take k).map deadRc))) (fun i _ => nd - (intOf i).toNat)
    case atStart => exact ⟨0, Nat.zero_le _, rfl, hid (by simpa using HS.out)⟩
    case round =>
      clear HS
      obtain ⟨k, hk, rfl, HS⟩ := hrel
      by_cases hlt : k < nd
      · have hkj : decide ((k : Int) < (nd : Int)) = true := by simp; omega
        have hkj2 : (k : Int) < (nd : Int) := by omega
        obtain ⟨g, rfl⟩ := HDNN.out (by omega)
        have hltL : k < dead.length := by rw [HND.out]; exact hlt
        have hc := fun j u h => HS.out.low.cell (HDC.out g rfl k hltL j u h)
        have HTK : Hid (L1 ++ (dead.take (k + 1)).map deadRc = (L1 ++ (dead.take k).map deadRc) ++ [deadRc (dead[k]'hltL)]) := hid (by rw [List.take_succ_eq_append_getElem hltL, List.map_append, List.append_assoc]; rfl)
        have hTL : (L1 ++ (dead.take k).map deadRc).length = k + n + 1 := by rw [List.length_append, List.length_map, List.length_take, HL1n.out]; omega
        obtain ⟨T, hT⟩ : ∃ T, L1 ++ (dead.take k).map deadRc = T := ⟨_, rfl⟩
        rw [hT] at HS HTK hTL
        have HTL := hid hTL
        obtain ⟨o, ho⟩ : ∃ o, dead[k]'hltL = o := ⟨_, rfl⟩
        rw [ho] at hc HTK
        obtain ⟨id, pl⟩ := o
        have k0 := cell_first (hc 0 _ rfl)
        have k1 := cell_next (hc 1 _ rfl) (by decide)
        obtain ⟨V1, hV1⟩ : ∃ W, wr.alloc (.cells #[uv id, uv pl] 75 (0, 0)) = W := ⟨_, rfl⟩
        have hE1 := Ext.alloc wr (.cells #[uv id, uv pl] 75 (0, 0))
        have hn1 := heap_alloc_new wr (.cells #[uv id, uv pl] 75 (0, 0))
        rw [hV1] at hE1 hn1
        have y0 : V1.cell? ⟨wr.heap.size, 0, none⟩ = some (uv id) := by rw [cell_of_row _ _ _ _ _ _ hn1]; rfl
        have y1 : V1.cell? ⟨wr.heap.size, 1, none⟩ = some (uv pl) := by rw [cell_of_row _ _ _ _ _ _ hn1]; rfl
        have HS2 := hid (HS.out.ext hE1)
        have HLK := hid hlt
        have hwk : IntKind.i64.wrap ((k : Int) + 1) = ((k + 1 : Nat) : Int) := i64v _ (by omega) (by have := HL.out; omega)
        have HC5 := hid ((HS2.out.ext (Ext.alloc V1 (.cells #[uv id, uv pl] 22))).put 15 [] _ [id, pl] (owv_lit V1 w.heap.size 22 [id, pl] #[uv id, uv pl] rfl 2 rfl HS2.out.low.size (by simp [maxLen])) (by rw [HTL.out]; have := HL.out; omega))
        clear hc ho hE1 hn1 hltL hlt HS hT hTL
        go_wp2_with (first | rw [hV1])
        refine HC5.out.mono ?_
        rintro e w5 ⟨⟨u5, rfl⟩, hs⟩
        have HS5 := hid hs
        clear hs HC5 HS2 k0 k1 y0 y1 hV1
        go_wp2
        go_roundw
        case rel => exact ⟨k + 1, HLK.out, by first | rfl | go_num, hid (by rw [HTK.out]; exact HS5.out)⟩
        case measure => have := HLK.out; simp [intOf]; omega
      have hkf : decide ((k : Int) < (nd : Int)) = false := by simp; omega
      have hkf2 : (k < nd) = False := by simp; omega
      have htk : dead.take k = dead := List.take_of_length_le (by rw [HND.out]; omega)
      rw [htk] at HS
      have hL2n : (L1 ++ dead.map deadRc).length = nd + n + 1 := by rw [List.length_append, List.length_map, HL1n.out, HND.out]; omega
      obtain ⟨L2, hL2⟩ : ∃ l, L1 ++ dead.map deadRc = l := ⟨_, rfl⟩
      rw [hL2] at HS hL2n
      have HL2 := hid hL2
      have HL2n := hid hL2n
      obtain ⟨⟨e0, e1, e2, e3, e4, e5, e6, e7⟩, ef⟩ := blk8s HS.out.stt
      clear hlt hk htk hL2 hL2n
      go_wp2
      clear e0 e1 e2 e3 e4 e5 e6 e7 ef hkf hkf2
      go_loopw [98] (fun i wr => ∃ k : Nat, k ≤ m ∧ i = .int .i64 (k : Int) ∧ Hid (SvS w wr w1.heap.size w.heap.size W2.heap.size #[uv now, uv next, uv lea, uv trn, uv dth, .slice io n ic, .slice do_ nd dc, .slice co m cc, uv sg, uv ps] #[uv now, uv next, uv lea, uv trn, uv dth, .slice io n ic, .slice do_ nd dc, .slice co m cc] (L2 ++ (curs.take k).map curRc))) (fun i _ => m - (intOf i).toNat)
      case atStart => exact ⟨0, Nat.zero_le _, rfl, hid (by simpa using HS.out)⟩
      case round =>
        clear HS
        obtain ⟨k, hk, rfl, HS⟩ := hrel
        by_cases hlt : k < m
        · have hkj : decide ((k : Int) < (m : Int)) = true := by simp; omega
          have hkj2 : (k : Int) < (m : Int) := by omega
          obtain ⟨g, rfl⟩ := HCNN.out (by omega)
          have hltL : k < curs.length := by rw [HM.out]; exact hlt
          have hc := fun j u h => HS.out.low.cell (HCC.out g rfl k hltL j u h)
          have HTK : Hid (L2 ++ (curs.take (k + 1)).map curRc = (L2 ++ (curs.take k).map curRc) ++ [curRc (curs[k]'hltL)]) := hid (by rw [List.take_succ_eq_append_getElem hltL, List.map_append, List.append_assoc]; rfl)
          have hTL : (L2 ++ (curs.take k).map curRc).length = k + nd + n + 1 := by rw [List.length_append, List.length_map, List.length_take, HL2n.out]; omega
          obtain ⟨T, hT⟩ : ∃ T, L2 ++ (curs.take k).map curRc = T := ⟨_, rfl⟩
          rw [hT] at HS HTK hTL
          have HTL := hid hTL
          obtain ⟨o, ho⟩ : ∃ o, curs[k]'hltL = o := ⟨_, rfl⟩
          rw [ho] at hc HTK
          obtain ⟨nm, pl⟩ := o
          have k0 := cell_first (hc 0 _ rfl)
          have k1 := cell_next (hc 1 _ rfl) (by decide)
          obtain ⟨V1, hV1⟩ : ∃ W, wr.alloc (.cells #[.string (str nm), uv pl] 77 (0, 0)) = W := ⟨_, rfl⟩
          have hE1 := Ext.alloc wr (.cells #[.string (str nm), uv pl] 77 (0, 0))
          have hn1 := heap_alloc_new wr (.cells #[.string (str nm), uv pl] 77 (0, 0))
          rw [hV1] at hE1 hn1
          have y0 : V1.cell? ⟨wr.heap.size, 0, none⟩ = some (.string (str nm)) := by rw [cell_of_row _ _ _ _ _ _ hn1]; rfl
          have y1 : V1.cell? ⟨wr.heap.size, 1, none⟩ = some (uv pl) := by rw [cell_of_row _ _ _ _ _ _ hn1]; rfl
          have HS2 := hid (HS.out.ext hE1)
          have HLK := hid hlt
          have hwk : IntKind.i64.wrap ((k : Int) + 1) = ((k + 1 : Nat) : Int) := i64v _ (by omega) (by have := HL.out; omega)
          have HC5 := hid ((HS2.out.ext (Ext.alloc V1 (.cells #[uv pl] 22))).put 16 nm _ [pl] (owv_lit V1 w.heap.size 22 [pl] #[uv pl] rfl 1 rfl HS2.out.low.size (by simp [maxLen])) (by rw [HTL.out]; have := HL.out; omega))
          clear hc ho hE1 hn1 hltL hlt HS hT hTL
          go_wp2_with (first | rw [hV1])
          refine HC5.out.mono ?_
          rintro e w5 ⟨⟨u5, rfl⟩, hs⟩
          have HS5 := hid hs
          clear hs HC5 HS2 k0 k1 y0 y1 hV1
          go_wp2
          go_roundw
          case rel => exact ⟨k + 1, HLK.out, by first | rfl | go_num, hid (by rw [HTK.out]; exact HS5.out)⟩
          case measure => have := HLK.out; simp [intOf]; omega
        have hkf : decide ((k : Int) < (m : Int)) = false := by simp; omega
        have hkf2 : (k < m) = False := by simp; omega
        have htk : curs.take k = curs := List.take_of_length_le (by rw [HM.out]; omega)
        rw [htk] at HS
        have hL3n : (L2 ++ curs.map curRc).length = m + nd + n + 1 := by rw [List.length_append, List.length_map, HL2n.out, HM.out]; omega
        have hbd : bodyR S = L2 ++ curs.map curRc := by rw [← HSS.out, ← HL2.out, ← HL1.out, ← HLB.out]; rfl
        have HSV2 : Hid (saveR S = (L2 ++ curs.map curRc) ++ [⟨17, [UInt64.ofNat (L2 ++ curs.map curRc).length], []⟩]) := hid (by unfold saveR; rw [hbd])
        obtain ⟨L3, hL3⟩ : ∃ l, L2 ++ curs.map curRc = l := ⟨_, rfl⟩
        rw [hL3] at HS hL3n HSV2
        obtain ⟨K, hK⟩ : ∃ a : UInt64, UInt64.ofNat L3.length = a := ⟨_, rfl⟩
        rw [hK] at HSV2
        have hKn : (K.toNat : Int) = (L3.length : Int) := by
          rw [← hK, UInt64.toNat_ofNat', Nat.mod_eq_of_lt (by rw [hL3n]; have := HL.out; omega)]
        have hwK : IntKind.u64.wrap (L3.length : Int) = (K.toNat : Int) := by rw [← hKn]; exact wrapU_u K
        have HS9 := hid HS.out
        obtain ⟨v9, h91, h92⟩ := HS.out.ex
        obtain ⟨so, sc, rfl⟩ := h92.open
        have c9 : wr.cell? ⟨w1.heap.size, 0, none⟩ = some (.slice so L3.length sc) := by rw [cell_of_row _ _ _ _ _ _ h91]; rfl
        have HC6 := hid ((HS9.out.ext (Ext.alloc wr (.cells #[uv K] 22))).put 17 [] _ [K] (owv_lit wr w.heap.size 22 [K] #[uv K] rfl 1 rfl HS9.out.low.size (by simp [maxLen])) (by rw [hL3n]; have := HL.out; omega))
        clear hlt hk htk h91 h92 hbd hL3 hL3n hK hKn HS
        go_wp2_with fail
        refine HC6.out.mono ?_
        rintro e w6 ⟨⟨u6, rfl⟩, hs⟩
        obtain ⟨v9, h91, h92⟩ := hs.ex
        have HO9 := hid h92
        have HLW := hid hs.low
        have c8 : w6.cell? ⟨w1.heap.size, 0, none⟩ = some v9 := by rw [cell_of_row _ _ _ _ _ _ h91]; rfl
        obtain ⟨ro, rc, rfl⟩ := h92.open
        clear hs HC6 HS9 c9 h91 h92 hkf hkf2 hwK
        go_wp2
        go_returns
        refine ⟨?_, HLW.out⟩
        have ho := HO9.out
        rw [List.length_append] at ho
        rw [HSV2.out]
        exact ⟨_, rfl, ho⟩
end Go.Proofs.YtpbmbjdiilnaeaaDoor

set_option linter.unusedSimpArgs false
set_option linter.unusedVariables false
set_option maxRecDepth 100000
namespace Go.Proofs.YtpbmbjdiilnaeaaDoor
open Go Go.RowKit Go.Tum Go.ChangeMaps Go.Sort Go.Tum.Vint Go.Tum.Crc

theorem Rcs.take {w : World} {a : Addr} {n cap : Nat} {l : List Rc} (h : Rcs w (.slice (some a) n cap) l) (k : Nat) (hk : k ≤ l.length) : Rcs w (.slice (some a) k k) (l.take k) := by
  obtain ⟨m, rfl, hr, hi⟩ := h
  rw [List.length_map] at hk
  obtain ⟨ao, c, e, h1, h2, h3, h4⟩ := hr.open
  simp only [Value.slice.injEq] at e
  obtain ⟨rfl, rfl, rfl⟩ := e
  refine ⟨m.take k, by rw [List.map_take], RowsOf.mk' (by rw [List.length_take]; omega) (Nat.le_refl _) (by simp [maxLen]; omega) (by decide) (fun _ _ => rfl) (fun i h j u hu => ?_), fun q hq => hi q (List.mem_of_mem_take hq)⟩
  rw [List.getElem_take] at hu
  exact h4 a rfl i (by rw [List.length_take] at h; omega) j u hu
theorem addr_add3 (a : Addr) (x y : Nat) : (a.add x).add y = a.add (x + y) := by
  unfold Addr.add
  split <;> split <;> simp_all <;> omega
theorem Rcs.drop {w : World} {a : Addr} {n cap : Nat} {l : List Rc} (h : Rcs w (.slice (some a) n cap) l) (k : Nat) (hk : k ≤ l.length) (b : Addr) (hb : k < l.length → b = a.add (k * 3)) : Rcs w (.slice (some b) (l.length - k) (l.length - k)) (l.drop k) := by
  obtain ⟨m, rfl, hr, hi⟩ := h
  rw [List.length_map] at hk hb ⊢
  obtain ⟨ao, c, e, h1, h2, h3, h4⟩ := hr.open
  simp only [Value.slice.injEq] at e
  obtain ⟨rfl, rfl, rfl⟩ := e
  refine ⟨m.drop k, by rw [List.map_drop], RowsOf.mk' (by rw [List.length_drop]) (Nat.le_refl _) (by simp [maxLen]; omega) (by decide) (fun _ _ => rfl) (fun i h j u hu => ?_), fun q hq => hi q (List.mem_of_mem_drop hq)⟩
  rw [List.length_drop] at h
  rw [List.getElem_drop] at hu
  rw [hb (by omega)]
  have := h4 a rfl (k + i) (by omega) j u hu
  rw [addr_add3, show k * 3 + (i * 3 + j) = (k + i) * 3 + j by omega]
  exact this
set_option maxHeartbeats 4000000 in
theorem take_any (v : Value) (l : List Rc) (kind : Int) (w : World) (h : Rcs w v l) (hl : l.length ≤ 1000000) :
    Calls Tryd.prog 26 #[v, .int .i64 kind] w fun e w' => (∃ va vb, e = .returned (.tuple #[va, vb]) ∧ ∃ k, k ≤ l.length ∧ (l.take k).all (fun r => r.kind == kind) = true ∧ (∀ r, l[k]? = some r → (r.kind == kind) = false) ∧ Rcs w' va (l.take k) ∧ Rcs w' vb (l.drop k)) ∧ Ext w w' := by
  have HR := hid h
  obtain ⟨m, hm, hr, -⟩ := h
  obtain ⟨ao, cap, rfl, hle, hmx, hnn, hcell⟩ := hr.open
  have hml : m.length = l.length := by rw [← hm, List.length_map]
  rw [hml] at HR hle ⊢
  obtain ⟨n, hn⟩ : ∃ n, l.length = n := ⟨_, rfl⟩
  rw [hn] at HR hle hl hml ⊢
  have HN := hid hn
  have HML := hid hml
  have HNN := hid hnn
  have HC : Hid (∀ a, ao = some a → ∀ i (h : i < l.length), w.cell? (a.add (i * 3)) = some (.int .i64 l[i].kind)) := hid (fun a ha i hi => by
    have := hcell a ha i (by omega) 0 (.int .i64 l[i].kind) (by simp [← hm])
    simpa using this)
  clear hr hcell hnn hm hml hn
  go_enter Tryd.func26, Tryd.ntmps26
  go_wp2
  go_loopw [6] (fun i wr => ∃ k : Nat, k ≤ n ∧ i = .int .i64 (k : Int) ∧ Hid ((l.take k).all (fun r => r.kind == kind) = true) ∧ Hid (Ext w wr)) (fun i _ => n - (intOf i).toNat)
  case atStart => exact ⟨0, Nat.zero_le _, rfl, hid rfl, hid (Ext.refl _)⟩
  case round =>
    obtain ⟨k, hk, rfl, HA, HE⟩ := hrel
    by_cases hlt : k < n
    · have hkj : decide ((k : Int) < (n : Int)) = true := by simp; omega
      have hkj2 : (k : Int) < (n : Int) := by omega
      obtain ⟨g, rfl⟩ := HNN.out (by omega)
      have hltL : k < l.length := by rw [HN.out]; exact hlt
      have c0 := HE.out.cell (HC.out g rfl k hltL)
      have HNX := hid (all_succ (fun r : Rc => r.kind == kind) l k hltL)
      have HKV : Hid (∀ hk : k < l.length, l[k].kind = l[k].kind) := hid (fun _ => rfl)
      obtain ⟨kd, hkd⟩ : ∃ x, (l[k]'hltL).kind = x := ⟨_, rfl⟩
      have HKD : Hid (∀ hk : k < l.length, l[k].kind = kd) := hid (fun _ => hkd)
      rw [hkd] at c0 HNX
      have HLK := hid hlt
      have hwk : IntKind.i64.wrap ((k : Int) + 1) = ((k + 1 : Nat) : Int) := i64v _ (by omega) (by omega)
      clear hltL HKV hkd
      by_cases hq : kd = kind
      · subst hq
        have hbe : (kd == kd) = true := by simp
        clear hlt
        go_wp2
        go_roundw
        case rel => exact ⟨k + 1, HLK.out, by first | rfl | go_num, hid (by rw [HNX.out, HA.out]; simp), HE⟩
        case measure => have := HLK.out; simp [intOf]; omega
      have hbe : (kd == kind) = false := by rw [beq_eq_false_iff_ne]; exact hq
      have hkc : ¬ n = k := by omega
      clear hlt hq
      go_wp2_with fail
      go_quiet (fail)
      have HE2 : Hid (Ext w (wr.drewN nq)) := hid (HE.out.trans (Ext.drewN _ _))
      clear HE hkc hwk c0 hkj
      go_wp2
      go_returns
      have hr9 := HR.out.ext HE2.out
      have hd9 := hr9.drop k (by rw [HN.out]; exact hk) (g.add (k * 3)) (fun _ => rfl)
      rw [HN.out] at hd9
      exact ⟨⟨_, _, rfl, k, hk, HA.out, fun r h => by
        obtain ⟨hk9, h9⟩ := List.getElem?_eq_some_iff.1 h
        rw [← h9, HKD.out hk9]; exact hbe, hr9.take k (by rw [HN.out]; exact hk), hd9⟩, HE2.out⟩
    have hkn : k = n := by omega
    subst hkn
    have hkf : decide ((k : Int) < (k : Int)) = false := by simp
    have hkf2 : ((k : Int) < (k : Int)) = False := by simp
    have hno : ∀ r, l[k]? = some r → (r.kind == kind) = false := fun r h => by
      have := (List.getElem?_eq_some_iff.1 h).1
      rw [HN.out] at this
      omega
    have HNO := hid hno
    have HAL : Hid (l.take k = l ∧ l.drop k = []) := hid ⟨List.take_of_length_le (by rw [HN.out]; omega), List.drop_of_length_le (by rw [HN.out]; omega)⟩
    have HK := hid hk
    clear hno hlt hk
    cases ao with
    | none =>
      have hc0 : ¬ 0 < cap := fun h => by obtain ⟨a, ha⟩ := HNN.out h; cases ha
      have hcap : cap = 0 := by omega
      subst hcap
      have hk0 : k = 0 := by omega
      subst hk0
      have HL0 : Hid (l = []) := hid (List.eq_nil_of_length_eq_zero HN.out)
      clear hle hc0 HNN hkf hkf2 hmx hl
      go_wp2_with fail
      go_quiet (fail)
      rename_i nq
      have HE2 : Hid (Ext w (wr.drewN nq)) := hid (HE.out.trans (Ext.drewN _ _))
      clear HE
      go_wp2
      go_returns
      refine ⟨⟨_, _, rfl, 0, Nat.le_refl _, rfl, HNO.out, ?_, ?_⟩, HE2.out⟩
      · exact ⟨[], by simp, RowsOf.nil _ _ _, fun p hp => absurd hp (by simp)⟩
      · exact ⟨[], by rw [HL0.out]; rfl, RowsOf.nil _ _ _, fun p hp => absurd hp (by simp)⟩
    | some g =>
      go_wp2_with fail
      go_quiet (fail)
      rename_i nq
      have HE2 : Hid (Ext w (wr.drewN nq)) := hid (HE.out.trans (Ext.drewN _ _))
      clear HE
      go_wp2
      go_returns
      have hr9 := HR.out.ext HE2.out
      refine ⟨⟨_, _, rfl, k, HK.out, HA.out, HNO.out, hr9.take k (by rw [HN.out]; exact HK.out), ?_⟩, HE2.out⟩
      have h := hr9.drop k (by rw [HN.out]; exact HK.out) g (fun hh => absurd hh (by rw [HN.out]; omega))
      rw [HN.out, Nat.sub_self] at h
      exact h
end Go.Proofs.YtpbmbjdiilnaeaaDoor

set_option linter.unusedSimpArgs false
set_option linter.unusedVariables false
set_option maxRecDepth 100000
namespace Go.Proofs.YtpbmbjdiilnaeaaDoor
open Go Go.RowKit Go.Tum Go.ChangeMaps Go.Sort Go.Tum.Vint Go.Tum.Crc

/-- The message of ten numbers. -/
def itmOf (a0 a1 a2 a3 a4 a5 a6 a7 a8 a9 : UInt64) : Itm := ⟨a0, IntKind.i64.wrap a1.toNat, IntKind.i64.wrap a2.toNat, IntKind.i64.wrap a3.toNat, a4, a5, a6, a7, a8, IntKind.i64.wrap a9.toNat⟩
theorem set10 {W : World} {b : Nat} {u0 u1 u2 u3 u4 u5 u6 u7 u8 u9 : Value} {ty : TypeId} (h : W.heap[b]? = some (.cells #[u0, u1, u2, u3, u4, u5, u6, u7, u8, u9] ty (0, 0))) (v0 v1 v2 v3 v4 v5 v6 v7 v8 v9 : Value) : ((((((((((W.setCell ⟨b, 0, none⟩ v0).setCell ⟨b, 1, none⟩ v1).setCell ⟨b, 2, none⟩ v2).setCell ⟨b, 3, none⟩ v3).setCell ⟨b, 4, none⟩ v4).setCell ⟨b, 5, none⟩ v5).setCell ⟨b, 6, none⟩ v6).setCell ⟨b, 7, none⟩ v7).setCell ⟨b, 8, none⟩ v8).setCell ⟨b, 9, none⟩ v9).heap[b]? = some (.cells #[v0, v1, v2, v3, v4, v5, v6, v7, v8, v9] ty (0, 0)) := by
  have h1 := (Go.Joins.block_setCell (i := 9) (Go.Joins.block_setCell (i := 8) (Go.Joins.block_setCell (i := 7) (Go.Joins.block_setCell (i := 6) (Go.Joins.block_setCell (i := 5) (Go.Joins.block_setCell (i := 4) (Go.Joins.block_setCell (i := 3) (Go.Joins.block_setCell (i := 2) (Go.Joins.block_setCell (i := 1) (Go.Joins.block_setCell (i := 0) h v0) v1) v2) v3) v4) v5) v6) v7) v8) v9)
  simpa using h1
theorem set10_fr (W : World) (b : Nat) (v0 v1 v2 v3 v4 v5 v6 v7 v8 v9 : Value) : Fr [b] W ((((((((((W.setCell ⟨b, 0, none⟩ v0).setCell ⟨b, 1, none⟩ v1).setCell ⟨b, 2, none⟩ v2).setCell ⟨b, 3, none⟩ v3).setCell ⟨b, 4, none⟩ v4).setCell ⟨b, 5, none⟩ v5).setCell ⟨b, 6, none⟩ v6).setCell ⟨b, 7, none⟩ v7).setCell ⟨b, 8, none⟩ v8).setCell ⟨b, 9, none⟩ v9) := by
  have f : ∀ (w : World) (i : Nat) (u : Value), Fr [b] w (w.setCell ⟨b, i, none⟩ u) := fun w i u => fr_setCell _ _ _ (by simp)
  exact ((((((((((f _ _ _).trans (f _ _ _)).trans (f _ _ _)).trans (f _ _ _)).trans (f _ _ _)).trans (f _ _ _)).trans (f _ _ _)).trans (f _ _ _)).trans (f _ _ _)).trans (f _ _ _))
theorem it_results (tmps : Array Value) (w : World) (b : Nat) (v0 v1 v2 v3 v4 v5 v6 v7 v8 v9 : Value) (h4 : tmps.getD 2 undef = .pointer (some ⟨b, 0, none⟩)) (m : w.heap[b]? = some (.cells #[v0, v1, v2, v3, v4, v5, v6, v7, v8, v9] 69 (0, 0))) :
    (results Tryd.f27 tmps).run Tryd.prog w = .ok (.agg #[v0, v1, v2, v3, v4, v5, v6, v7, v8, v9]) w := by
  have h4' : tmps[2]?.getD undef = .pointer (some ⟨b, 0, none⟩) := by simpa using h4
  obtain ⟨⟨m0, m1, m2, m3, m4, m5, m6, m7, m8, m9⟩, -⟩ := blk10 m
  simp [results, Tryd.results27, go_sem, h4', m0, m1, m2, m3, m4, m5, m6, m7, m8, m9]
set_option maxHeartbeats 4000000 in
theorem sitem_any (v : Value) (a0 a1 a2 a3 a4 a5 a6 a7 a8 a9 : UInt64) (w : World) (h : Vec uv w v [a0, a1, a2, a3, a4, a5, a6, a7, a8, a9]) :
    Calls Tryd.prog 27 #[v] w fun e w' => e = .returned (.agg (itcells (itmOf a0 a1 a2 a3 a4 a5 a6 a7 a8 a9)).toArray) ∧ Ext w w' := by
  obtain ⟨ao, cap, rfl, hle, hmx, hnn, hcell⟩ := h.open
  obtain ⟨g, rfl⟩ := hnn (by simp at hle; omega)
  have k0 := hcell g rfl 0 (by simp)
  have k1 := hcell g rfl 1 (by simp)
  have k2 := hcell g rfl 2 (by simp)
  have k3 := hcell g rfl 3 (by simp)
  have k4 := hcell g rfl 4 (by simp)
  have k5 := hcell g rfl 5 (by simp)
  have k6 := hcell g rfl 6 (by simp)
  have k7 := hcell g rfl 7 (by simp)
  have k8 := hcell g rfl 8 (by simp)
  have k9 := hcell g rfl 9 (by simp)
  have e0 : g.add 0 = g := by simp [Addr.add]
  rw [e0] at k0
  simp only [List.length_cons, List.length_nil, Nat.reduceAdd, Nat.zero_add, List.getElem_cons_zero, List.getElem_cons_succ] at k0 k1 k2 k3 k4 k5 k6 k7 k8 k9 ⊢
  obtain ⟨W0, hW0⟩ : ∃ W, w.alloc (.cells #[.int .u64 0, .int .i64 0, .int .i64 0, .int .i64 0, .int .u64 0, .int .u64 0, .int .u64 0, .int .u64 0, .int .u64 0, .int .i64 0] 69 (0, 0)) = W := ⟨_, rfl⟩
  have hE0 := Ext.alloc w (.cells #[.int .u64 0, .int .i64 0, .int .i64 0, .int .i64 0, .int .u64 0, .int .u64 0, .int .u64 0, .int .u64 0, .int .u64 0, .int .i64 0] 69 (0, 0))
  have hb0 := heap_alloc_new w (.cells #[.int .u64 0, .int .i64 0, .int .i64 0, .int .i64 0, .int .u64 0, .int .u64 0, .int .u64 0, .int .u64 0, .int .u64 0, .int .i64 0] 69 (0, 0))
  rw [hW0] at hE0 hb0
  replace k0 := hE0.cell k0
  replace k1 := hE0.cell k1
  replace k2 := hE0.cell k2
  replace k3 := hE0.cell k3
  replace k4 := hE0.cell k4
  replace k5 := hE0.cell k5
  replace k6 := hE0.cell k6
  replace k7 := hE0.cell k7
  replace k8 := hE0.cell k8
  replace k9 := hE0.cell k9
  obtain ⟨⟨m0, m1, m2, m3, m4, m5, m6, m7, m8, m9⟩, mf⟩ := blk10 hb0
  have HE0 := hid hE0
  have HB0 := hid hb0
  clear h hnn hcell hE0 hb0 e0 hle
  go_enter Tryd.func27, Tryd.ntmps27
  go_wp2_with rw [hW0]
  go_still_tail 37, (by kernel_rfl)
  obtain ⟨W1, hW1⟩ : ∃ W, ({ heap := W0.heap, tape := W0.tape, drawn := W0.drawn + 1, os := W0.os, output := W0.output } : World) = W := ⟨_, rfl⟩
  have hE1 : Ext W0 W1 := by rw [← hW1]; exact Ext.draw W0
  rw [hW1]
  replace k0 := hE1.cell k0
  replace k1 := hE1.cell k1
  replace k2 := hE1.cell k2
  replace k3 := hE1.cell k3
  replace k4 := hE1.cell k4
  replace k5 := hE1.cell k5
  replace k6 := hE1.cell k6
  replace k7 := hE1.cell k7
  replace k8 := hE1.cell k8
  replace k9 := hE1.cell k9
  rw [show g.add 1 = ⟨g.block, g.off + 1, none⟩ by simp [Addr.add]] at k1
  rw [show g.add 2 = ⟨g.block, g.off + 2, none⟩ by simp [Addr.add]] at k2
  rw [show g.add 3 = ⟨g.block, g.off + 3, none⟩ by simp [Addr.add]] at k3
  rw [show g.add 4 = ⟨g.block, g.off + 4, none⟩ by simp [Addr.add]] at k4
  rw [show g.add 5 = ⟨g.block, g.off + 5, none⟩ by simp [Addr.add]] at k5
  rw [show g.add 6 = ⟨g.block, g.off + 6, none⟩ by simp [Addr.add]] at k6
  rw [show g.add 7 = ⟨g.block, g.off + 7, none⟩ by simp [Addr.add]] at k7
  rw [show g.add 8 = ⟨g.block, g.off + 8, none⟩ by simp [Addr.add]] at k8
  rw [show g.add 9 = ⟨g.block, g.off + 9, none⟩ by simp [Addr.add]] at k9
  obtain ⟨⟨n0, n1, n2, n3, n4, n5, n6, n7, n8, n9⟩, nf⟩ := blk10 (hE1.obj HB0.out)
  have HB1 := hid (hE1.obj HB0.out)
  have HE1 := hid (HE0.out.trans hE1)
  clear hE1 hW1 hW0 m0 m1 m2 m3 m4 m5 m6 m7 m8 m9 mf
  repeat still_step
  refine wpStill_nil ?_
  go_wp2
  refine bodyPost_ret (it_results _ _ w.heap.size _ _ _ _ _ _ _ _ _ _ rfl (set10 HB1.out _ _ _ _ _ _ _ _ _ _)) rfl ?_
  exact ⟨by simp [itmOf, itcells, IntWalk.i64_left], HE1.out.below ((set10_fr _ _ _ _ _ _ _ _ _ _ _ _).below (by simp) HE1.out.size)⟩
end Go.Proofs.YtpbmbjdiilnaeaaDoor

set_option linter.unusedSimpArgs false
set_option linter.unusedVariables false
set_option maxRecDepth 100000
namespace Go.Proofs.YtpbmbjdiilnaeaaDoor
open Go Go.RowKit Go.Tum Go.ChangeMaps Go.Sort Go.Tum.Vint Go.Tum.Crc

theorem blk_sl13 {w : World} {g n : Nat} {cs : List Value} {ty : TypeId} {fr : Nat × Nat} (h : w.heap[g]? = some (.cells cs.toArray ty fr)) (hn : cs.length = n) : Sl w n (.slice (some ⟨g, 0, none⟩) 1 1) 1 cs := by
  refine ⟨by omega, some ⟨g, 0, none⟩, 1, rfl, Nat.le_refl _, by simp [maxLen], (fun h => by cases h), fun a ha j u hu => ?_⟩
  cases ha
  have e1 : (⟨g, 0, none⟩ : Addr).add j = ⟨g, j, none⟩ := by unfold Addr.add; split <;> simp_all
  rw [e1, cell_of_row _ _ _ _ _ _ h]
  simpa using hu
theorem rcs_of_own {w wr : World} {B T n : Nat} {v : Value} {m : List (Rc × Value)} {l : List Rc} (h : wr.ownsRow B T 3 v n (m.flatMap rcells)) (hn : m.length = n) (hm : m.map (·.1) = l) (hi : ∀ p ∈ m, Vec uv w p.2 p.1.n) (k : Ext w wr) : Rcs wr v l := by
  subst hn
  exact ⟨m, hm, ⟨fun _ _ => rfl, Sl.of_owns h⟩, fun q hq => (hi q hq).ext k⟩
set_option maxHeartbeats 4000000 in
theorem owns13_any (v : Value) (l : List Rc) (w : World) (h : Rcs w v l) (hl : l.length ≤ 1000000) :
    Calls Tryd.prog 14 #[v] w fun e w' => (∃ u, e = .returned u ∧ Rcs w' u l) ∧ Ext w w' := by
  obtain ⟨m, hm, hr, hi⟩ := h
  obtain ⟨ao, cap, rfl, hle, hmx, hnn, hcell⟩ := hr.open
  have HI := hid hi
  have HC := hid hcell
  have HNN := hid hnn
  have hml : m.length = l.length := by rw [← hm, List.length_map]
  rw [← hml] at hl
  obtain ⟨n, hn⟩ : ∃ n, m.length = n := ⟨_, rfl⟩
  rw [hn] at hle hl
  rw [hn]
  have HN := hid hn
  have HM := hid hm
  clear hr hi hcell hnn hm hml hn
  go_enter Tryd.func14, Tryd.ntmps14
  go_wp2
  have H0 : Hid ((w.alloc (.cells #[] 71)).ownsRow w.heap.size 71 3 (.slice (some ⟨w.heap.size, 0, none⟩) 0 0) 0 []) := hid (by simpa using World.ownsRow_lit (base := w.heap.size) (e := 71) (size := 3) w #[] 0 (Nat.le_refl _) (by simp [maxLen]) (by simp))
  go_loopw [3, 9] (fun sv i wr => ∃ k : Nat, k ≤ n ∧ i = .int .i64 (k : Int) ∧ Hid (wr.ownsRow w.heap.size 71 3 sv k ((m.take k).flatMap rcells)) ∧ Hid (Ext w wr)) (fun _ i _ => n - (intOf i).toNat)
  case atStart => exact ⟨0, Nat.zero_le _, rfl, hid (by simpa using H0.out), hid (Ext.alloc _ _)⟩
  case round =>
    clear H0
    obtain ⟨k, hk, rfl, HO, HE⟩ := hrel
    by_cases hlt : k < n
    · have hkj : decide ((k : Int) < (n : Int)) = true := by simp; omega
      have hkj2 : (k : Int) < (n : Int) := by omega
      obtain ⟨g, rfl⟩ := HNN.out (by omega)
      have hltL : k < m.length := by rw [HN.out]; exact hlt
      have hc := fun j u h => HE.out.cell (HC.out g rfl k hltL j u h)
      have HTK : Hid ((m.take (k + 1)).flatMap rcells = (m.take k).flatMap rcells ++ rcells (m[k]'hltL)) := hid (by rw [List.take_succ_eq_append_getElem hltL, List.flatMap_append]; simp)
      have hvec := HI.out _ (List.getElem_mem hltL)
      obtain ⟨o, ho⟩ : ∃ o, m[k]'hltL = o := ⟨_, rfl⟩
      rw [ho] at hc HTK hvec
      obtain ⟨⟨kd, ns, tx⟩, r⟩ := o
      dsimp only at hvec
      obtain ⟨ro, rc, rfl, -⟩ := hvec.open
      have k0 := cell_first (hc 0 _ rfl)
      have k1 := cell_next (hc 1 _ rfl) (by decide)
      have k2 := cell_next (hc 2 _ rfl) (by decide)
      dsimp only at k0 k1 k2
      obtain ⟨W1, hW1⟩ : ∃ W, wr.alloc (.cells #[.int .i64 kd, .slice ro ns.length rc, .string (str tx)] 62 (0, 0)) = W := ⟨_, rfl⟩
      have hE1 := Ext.alloc wr (.cells #[.int .i64 kd, .slice ro ns.length rc, .string (str tx)] 62 (0, 0))
      have hb1 := heap_alloc_new wr (.cells #[.int .i64 kd, .slice ro ns.length rc, .string (str tx)] 62 (0, 0))
      rw [hW1] at hE1 hb1
      have y0 : W1.cell? ⟨wr.heap.size, 0, none⟩ = some (.int .i64 kd) := by rw [cell_of_row _ _ _ _ _ _ hb1]; rfl
      have y1 : W1.cell? ⟨wr.heap.size, 1, none⟩ = some (.slice ro ns.length rc) := by rw [cell_of_row _ _ _ _ _ _ hb1]; rfl
      have y2 : W1.cell? ⟨wr.heap.size, 2, none⟩ = some (.string (str tx)) := by rw [cell_of_row _ _ _ _ _ _ hb1]; rfl
      have hE2 := Ext.alloc W1 (.cells #[.int .i64 kd, .slice ro ns.length rc, .string (str tx)] 71)
      have hb2 := heap_alloc_new W1 (.cells #[.int .i64 kd, .slice ro ns.length rc, .string (str tx)] 71)
      have HB2 : Hid (Sl (W1.alloc (.cells #[.int .i64 kd, .slice ro ns.length rc, .string (str tx)] 71)) 3 (.slice (some ⟨W1.heap.size, 0, none⟩) 1 1) 1 [.int .i64 kd, .slice ro ns.length rc, .string (str tx)]) := hid (blk_sl13 (cs := [.int .i64 kd, .slice ro ns.length rc, .string (str tx)]) hb2 rfl)
      have HX2 := hid (HE.out.trans (hE1.trans hE2))
      have HO2 := hid ((hE1.trans hE2).owns HO.out)
      have HLK := hid hlt
      have hwk : IntKind.i64.wrap ((k : Int) + 1) = ((k + 1 : Nat) : Int) := i64v _ (by omega) (by omega)
      clear hc ho hE1 hb1 hE2 hb2 hltL hlt HO HE hvec
      go_wp2_with (first | rw [hW1] | (at_builtin; go_loud (refine wpList_append_sl rfl (.tmp 13) (.tmp 15) 45 rfl w.heap.size 71 Tryd.underlying45 infoRRc rfl (by decide) rfl HO2.out rfl HB2.out (by intro y hy; simp at hy; rcases hy with rfl | rfl | rfl <;> rfl) (by simp [maxLen]; have := HLK.out; omega) (by have := HLK.out; omega) HX2.out.size ?_; intro ao3 cap3 w3 hO3 hg3 hb3; have HO3 := hid hO3; have HE3 : Hid (Ext w w3) := hid (HX2.out.below hb3); clear hO3 hg3 hb3)))
      go_roundw
      case rel => exact ⟨k + 1, HLK.out, by first | rfl | go_num, hid (by rw [HTK.out]; exact HO3.out), HE3⟩
      case measure => have := HLK.out; simp [intOf]; omega
    have hkf : decide ((k : Int) < (n : Int)) = false := by simp; omega
    have hkf2 : (k < n) = False := by simp; omega
    have hkn : k = n := by omega
    have htk : m.take k = m := List.take_of_length_le (by rw [HN.out]; omega)
    have ho := HO.out
    rw [htk] at ho
    have HRR := hid (rcs_of_own ho (by rw [HN.out, hkn]) HM.out HI.out HE.out)
    clear hlt hk htk ho hkn HO
    go_wp2
    go_returns
    exact ⟨⟨_, rfl, HRR.out⟩, HE.out⟩
end Go.Proofs.YtpbmbjdiilnaeaaDoor

set_option linter.unusedSimpArgs false
set_option linter.unusedVariables false
set_option maxRecDepth 100000
namespace Go.Proofs.YtpbmbjdiilnaeaaDoor
open Go Go.RowKit Go.Tum Go.ChangeMaps Go.Sort Go.Tum.Vint Go.Tum.Crc

theorem tw_of {α : Type} (p : α → Bool) : ∀ (l : List α) (k : Nat), k ≤ l.length → (l.take k).all p = true → (∀ r, l[k]? = some r → p r = false) → l.takeWhile p = l.take k ∧ l.dropWhile p = l.drop k
  | [], k, _, _, _ => by simp
  | a :: r, 0, _, _, h => by
    have := h a (by simp)
    simp [this]
  | a :: r, k + 1, hk, ha, h => by
    rw [List.take_succ_cons, List.all_cons, Bool.and_eq_true] at ha
    have ih := tw_of p r k (by simp at hk; omega) ha.2 (fun x hx => h x (by simpa using hx))
    rw [List.takeWhile_cons, List.dropWhile_cons, if_pos ha.1, if_pos ha.1, List.take_succ_cons, List.drop_succ_cons, ih.1, ih.2]
    exact ⟨rfl, rfl⟩
def twK (k : Int) (l : List Rc) : List Rc := l.takeWhile fun r => r.kind == k
def dwK (k : Int) (l : List Rc) : List Rc := l.dropWhile fun r => r.kind == k
theorem take2_any (v : Value) (l : List Rc) (kind : Int) (w : World) (h : Rcs w v l) (hl : l.length ≤ 1000000) :
    Calls Tryd.prog 26 #[v, .int .i64 kind] w fun e w' => (∃ va vb, e = .returned (.tuple #[va, vb]) ∧ Rcs w' va (twK kind l) ∧ Rcs w' vb (dwK kind l)) ∧ Ext w w' := by
  refine (take_any v l kind w h hl).mono ?_
  rintro e w' ⟨⟨va, vb, rfl, k, h1, h2, h3, h4, h5⟩, hx⟩
  have t := tw_of _ l k h1 h2 h3
  exact ⟨⟨va, vb, rfl, by unfold twK; rw [t.1]; exact h4, by unfold dwK; rw [t.2]; exact h5⟩, hx⟩
theorem twK_len (k : Int) (l : List Rc) : (twK k l).length ≤ l.length := (List.takeWhile_sublist _).length_le
theorem dwK_len (k : Int) (l : List Rc) : (dwK k l).length ≤ l.length := (List.dropWhile_sublist _).length_le
/-- The message, the row, the cursor of a record. -/
def nAt (r : Rc) (i : Nat) : UInt64 := r.n.getD i 0
def liveOf (r : Rc) : Itm := itmOf (nAt r 0) (nAt r 1) (nAt r 2) (nAt r 3) (nAt r 4) (nAt r 5) (nAt r 6) (nAt r 7) (nAt r 8) (nAt r 9)
def deadOf (r : Rc) : UInt64 × UInt64 := (nAt r 0, nAt r 1)
def curOf (r : Rc) : List UInt8 × UInt64 := (r.text, nAt r 0)
def snpOf (b : Rc) (lives rows curs : List Rc) : Snp := ⟨nAt b 0, nAt b 1, nAt b 2, nAt b 3, nAt b 4, lives.map liveOf, rows.map deadOf, curs.map curOf, nAt b 5, nAt b 6⟩
def snp0 : Snp := ⟨0, 0, 0, 0, 0, [], [], [], 0, 0⟩
/-- What Load makes of records: none, or a snapshot. -/
def loadR (l : List Rc) : Option Snp :=
  if l.all rightB = false then none else
  let base := twK 13 l; let l1 := dwK 13 l
  let lives := twK 14 l1; let l2 := dwK 14 l1
  let rows := twK 15 l2; let l3 := dwK 15 l2
  let curs := twK 16 l3; let l4 := dwK 16 l3
  let fin := twK 17 l4; let l5 := dwK 17 l4
  if base.length ≠ 1 ∨ fin.length ≠ 1 ∨ 0 < l5.length ∨ nAt (fin.getD 0 r0) 0 ≠ UInt64.ofNat (l.length - 1) then none else
  let s := snpOf (base.getD 0 r0) lives rows curs
  if rightS s then some s else none
theorem ld_results (tmps : Array Value) (w : World) (b : Nat) (v0 v1 v2 v3 v4 v5 v6 v7 v8 v9 : Value) (E : Int) (h4 : tmps.getD 2 undef = .pointer (some ⟨b, 0, none⟩)) (h5 : tmps.getD 3 undef = .int .i64 E) (m : w.heap[b]? = some (.cells #[v0, v1, v2, v3, v4, v5, v6, v7, v8, v9] 29 (0, 0))) :
    (results Tryd.f12 tmps).run Tryd.prog w = .ok (.tuple #[.agg #[v0, v1, v2, v3, v4, v5, v6, v7, v8, v9], .int .i64 E]) w := by
  have h4' : tmps[2]?.getD undef = .pointer (some ⟨b, 0, none⟩) := by simpa using h4
  have h5' : tmps[3]?.getD undef = .int .i64 E := by simpa using h5
  obtain ⟨⟨m0, m1, m2, m3, m4, m5, m6, m7, m8, m9⟩, -⟩ := blk10 m
  simp [results, Tryd.results12, go_sem, h4', h5', m0, m1, m2, m3, m4, m5, m6, m7, m8, m9]
end Go.Proofs.YtpbmbjdiilnaeaaDoor

set_option linter.unusedSimpArgs false
set_option linter.unusedVariables false
set_option maxRecDepth 100000
namespace Go.Proofs.YtpbmbjdiilnaeaaDoor
open Go Go.RowKit Go.Tum Go.ChangeMaps Go.Sort Go.Tum.Vint Go.Tum.Crc

theorem mem_twK {k : Int} {l : List Rc} {r : Rc} (h : r ∈ twK k l) : r.kind = k ∧ r ∈ l := by
  unfold twK at h
  refine ⟨?_, (List.takeWhile_sublist _).mem h⟩
  have := List.all_takeWhile (p := fun r : Rc => r.kind == k) (l := l)
  have := List.all_eq_true.1 this r h
  simpa using this
theorem mem_dwK {k : Int} {l : List Rc} {r : Rc} (h : r ∈ dwK k l) : r ∈ l := (List.dropWhile_sublist _).mem h
theorem right_len {r : Rc} (h : rightB r = true) : r.n.length = many r.kind := by
  unfold rightB at h
  simp only [Bool.and_eq_true, decide_eq_true_eq] at h
  exact h.1.2
theorem len1_ex {l : List UInt64} (h : l.length = 1) : ∃ a0, l = [a0] := List.length_eq_one_iff.1 h
theorem len2_ex {l : List UInt64} (h : l.length = 2) : ∃ a0 a1, l = [a0, a1] := by
  match l, h with
  | [a, b], _ => exact ⟨a, b, rfl⟩
theorem len7_ex {l : List UInt64} (h : l.length = 7) : ∃ a0 a1 a2 a3 a4 a5 a6, l = [a0, a1, a2, a3, a4, a5, a6] := by
  match l, h with
  | [a, b, c, d, e, f, g], _ => exact ⟨_, _, _, _, _, _, _, rfl⟩
theorem len10_ex {l : List UInt64} (h : l.length = 10) : ∃ a0 a1 a2 a3 a4 a5 a6 a7 a8 a9, l = [a0, a1, a2, a3, a4, a5, a6, a7, a8, a9] := by
  match l, h with
  | [a, b, c, d, e, f, g, h, i, j], _ => exact ⟨_, _, _, _, _, _, _, _, _, _, rfl⟩

abbrev ItO (w : World) (B : Nat) (v : Value) (l : List Itm) : Prop := w.ownsRow B 69 10 v l.length (l.flatMap itcells)
abbrev DdO (w : World) (B : Nat) (v : Value) (l : List (UInt64 × UInt64)) : Prop := w.ownsRow B 75 2 v l.length (l.flatMap ddcells)
abbrev CuO (w : World) (B : Nat) (v : Value) (l : List (List UInt8 × UInt64)) : Prop := w.ownsRow B 77 2 v l.length (l.flatMap cucells)
theorem ito_its {w : World} {B : Nat} {v : Value} {l : List Itm} (h : ItO w B v l) : Its w v l := ⟨fun _ _ => rfl, Sl.of_owns h⟩
theorem ddo_rows {w : World} {B : Nat} {v : Value} {l : List (UInt64 × UInt64)} (h : DdO w B v l) : RowsOf w 2 v ddcells l := ⟨fun _ _ => rfl, Sl.of_owns h⟩
theorem cuo_rows {w : World} {B : Nat} {v : Value} {l : List (List UInt8 × UInt64)} (h : CuO w B v l) : RowsOf w 2 v cucells l := ⟨fun _ _ => rfl, Sl.of_owns h⟩
theorem owns_shape {w : World} {B T k n : Nat} {v : Value} {xs : List Value} (h : w.ownsRow B T k v n xs) : ∃ ao cap, v = .slice ao n cap := by
  rcases h.2 with ⟨e, e2⟩ | ⟨g, c, cur, e, _⟩
  · exact ⟨none, 0, by rw [e, e2]⟩
  · exact ⟨_, c, e⟩
theorem owns_notIn {w : World} {B T k n p : Nat} {v : Value} {xs : List Value} {cs : Array Value} {ty : TypeId} {fr : Nat × Nat} (h : w.ownsRow B T k v n xs) (hb : w.heap[p]? = some (.cells cs ty fr)) (h1 : T ≠ ty) : p ∉ oB v := by
  rcases h.2 with ⟨e, -⟩ | ⟨g, cap, cur, e1, e2, e3, e4⟩
  · subst e; simp [oB, Value.ownBlock]
  · subst e1
    intro hp
    simp [oB, Value.ownBlock] at hp
    subst hp
    rw [hb] at e3
    simp only [Option.some.injEq, Obj.cells.injEq] at e3
    exact h1 e3.2.1.symm
/-- The snapshot that Load makes lies in the box p, its rows are Load's own. -/
structure LdS (w0 w : World) (p : Nat) (s : Snp) (vi vd vc : Value) : Prop where
  box : w.heap[p]? = some (.cells (snpC s vi vd vc) 29 (0, 0))
  it : ItO w w0.heap.size vi s.items
  dd : DdO w w0.heap.size vd s.dead
  cu : CuO w w0.heap.size vc s.curs
  lp : w0.heap.size ≤ p
  low : Ext w0 w
theorem LdS.ext {w0 w w' : World} {p : Nat} {s : Snp} {vi vd vc : Value} (h : LdS w0 w p s vi vd vc) (k : Ext w w') : LdS w0 w' p s vi vd vc :=
  ⟨k.obj h.box, k.owns h.it, k.owns h.dd, k.owns h.cu, h.lp, h.low.trans k⟩
theorem LdS.snp {w0 w : World} {p : Nat} {s : Snp} {vi vd vc : Value} (h : LdS w0 w p s vi vd vc) : SnpIn w s vi vd vc := ⟨ito_its h.it, ddo_rows h.dd, cuo_rows h.cu⟩
theorem box_far {w w' : World} {p B T k n : Nat} {v : Value} {xs : List Value} {cs : Array Value} (hb : w.heap[p]? = some (.cells cs 29 (0, 0))) (h : w.ownsRow B T k v n xs) (h1 : T ≠ 29) (hg : w.grownBy w' v.ownBlock) (hbl : Below B w w') : w'.heap[p]? = some (.cells cs 29 (0, 0)) := by
  rw [(fr_grown hg hbl).block p (Array.getElem?_eq_some_iff.1 hb).1 (owns_notIn h hb h1)]
  exact hb
theorem set_snp {w : World} {p : Nat} {s : Snp} {vi vd vc : Value} (hb : w.heap[p]? = some (.cells (snpC s vi vd vc) 29 (0, 0))) :
    (∀ v, (w.setCell ⟨p, 5, none⟩ v).heap[p]? = some (.cells (snpC s v vd vc) 29 (0, 0))) ∧ (∀ v, (w.setCell ⟨p, 6, none⟩ v).heap[p]? = some (.cells (snpC s vi v vc) 29 (0, 0))) ∧ (∀ v, (w.setCell ⟨p, 7, none⟩ v).heap[p]? = some (.cells (snpC s vi vd v) 29 (0, 0))) := by
  refine ⟨fun v => ?_, fun v => ?_, fun v => ?_⟩
  · have := Go.Joins.block_setCell (i := 5) hb v
    simpa [snpC] using this
  · have := Go.Joins.block_setCell (i := 6) hb v
    simpa [snpC] using this
  · have := Go.Joins.block_setCell (i := 7) hb v
    simpa [snpC] using this
theorem LdS.addI {w0 w w3 : World} {p : Nat} {s : Snp} {vi vd vc : Value} (h : LdS w0 w p s vi vd vc) (x : Itm) {v : Value} {n : Nat} (ho : w3.ownsRow w0.heap.size 69 10 v n (s.items.flatMap itcells ++ itcells x)) (hn : n = s.items.length + 1) (hg : w.grownBy w3 vi.ownBlock) (hb : Below w0.heap.size w w3) :
    LdS w0 (w3.setCell ⟨p, 5, none⟩ v) p { s with items := s.items ++ [x] } v vd vc ∧ w3.cell? ⟨p, 5, none⟩ = some vi ∧ w3.frozen? ⟨p, 5, none⟩ = false := by
  subst hn
  have hx := box_far h.box h.it (by decide) hg hb
  refine ⟨⟨(set_snp (s := s) hx).1 v, owns_set (by simpa using ho) hx (by decide), owns_set (rows_far h.dd h.it (by decide) hg) hx (by decide), owns_set (rows_far h.cu h.it (by decide) hg) hx (by decide), h.lp, (h.low.below hb).below ((fr_setCell (S := [p]) _ _ _ (by simp)).below (by simp; exact h.lp) (h.low.below hb).size)⟩, ?_, ?_⟩
  · rw [cell_of_row _ _ _ _ _ _ hx]; rfl
  · simp [World.frozen?, hx]
theorem LdS.addD {w0 w w3 : World} {p : Nat} {s : Snp} {vi vd vc : Value} (h : LdS w0 w p s vi vd vc) (x : UInt64 × UInt64) {v : Value} {n : Nat} (ho : w3.ownsRow w0.heap.size 75 2 v n (s.dead.flatMap ddcells ++ ddcells x)) (hn : n = s.dead.length + 1) (hg : w.grownBy w3 vd.ownBlock) (hb : Below w0.heap.size w w3) :
    LdS w0 (w3.setCell ⟨p, 6, none⟩ v) p { s with dead := s.dead ++ [x] } vi v vc ∧ w3.cell? ⟨p, 6, none⟩ = some vd ∧ w3.frozen? ⟨p, 6, none⟩ = false := by
  subst hn
  have hx := box_far h.box h.dd (by decide) hg hb
  refine ⟨⟨(set_snp (s := s) hx).2.1 v, owns_set (rows_far h.it h.dd (by decide) hg) hx (by decide), owns_set (by simpa using ho) hx (by decide), owns_set (rows_far h.cu h.dd (by decide) hg) hx (by decide), h.lp, (h.low.below hb).below ((fr_setCell (S := [p]) _ _ _ (by simp)).below (by simp; exact h.lp) (h.low.below hb).size)⟩, ?_, ?_⟩
  · rw [cell_of_row _ _ _ _ _ _ hx]; rfl
  · simp [World.frozen?, hx]
theorem LdS.addC {w0 w w3 : World} {p : Nat} {s : Snp} {vi vd vc : Value} (h : LdS w0 w p s vi vd vc) (x : List UInt8 × UInt64) {v : Value} {n : Nat} (ho : w3.ownsRow w0.heap.size 77 2 v n (s.curs.flatMap cucells ++ cucells x)) (hn : n = s.curs.length + 1) (hg : w.grownBy w3 vc.ownBlock) (hb : Below w0.heap.size w w3) :
    LdS w0 (w3.setCell ⟨p, 7, none⟩ v) p { s with curs := s.curs ++ [x] } vi vd v ∧ w3.cell? ⟨p, 7, none⟩ = some vc ∧ w3.frozen? ⟨p, 7, none⟩ = false := by
  subst hn
  have hx := box_far h.box h.cu (by decide) hg hb
  refine ⟨⟨(set_snp (s := s) hx).2.2 v, owns_set (rows_far h.it h.cu (by decide) hg) hx (by decide), owns_set (rows_far h.dd h.cu (by decide) hg) hx (by decide), owns_set (by simpa using ho) hx (by decide), h.lp, (h.low.below hb).below ((fr_setCell (S := [p]) _ _ _ (by simp)).below (by simp; exact h.lp) (h.low.below hb).size)⟩, ?_, ?_⟩
  · rw [cell_of_row _ _ _ _ _ _ hx]; rfl
  · simp [World.frozen?, hx]
theorem infoItm : (Tryd.prog.info? 69).map (fun i => (i.zero, i.size, i.bytes)) = some (some (.agg #[.int .u64 0, .int .i64 0, .int .i64 0, .int .i64 0, .int .u64 0, .int .u64 0, .int .u64 0, .int .u64 0, .int .u64 0, .int .i64 0]), 10, 80) := by kernel_rfl
theorem infoDd : (Tryd.prog.info? 75).map (fun i => (i.zero, i.size, i.bytes)) = some (some (.agg #[.int .u64 0, .int .u64 0]), 2, 16) := by kernel_rfl
theorem infoCu : (Tryd.prog.info? 77).map (fun i => (i.zero, i.size, i.bytes)) = some (some (.agg #[.string ⟨#[]⟩, .int .u64 0]), 2, 24) := by kernel_rfl
theorem owns_frB {w w' : World} {B T k n : Nat} {v : Value} {xs : List Value} {S : List Nat} (h : w.ownsRow B T k v n xs) (f : Fr S w w') (hS : ∀ q ∈ S, q < B) : w'.ownsRow B T k v n xs := by
  refine ⟨h.1, ?_⟩
  rcases h.2 with hn | ⟨g, cap, cur, hv, hb, hgg, rest⟩
  · exact .inl hn
  · refine .inr ⟨g, cap, cur, hv, hb, ?_, rest⟩
    rw [f.block g (Array.getElem?_eq_some_iff.1 hgg).1 (fun hm => by have := hS g hm; omega)]; exact hgg
theorem LdS.frB {w0 w w' : World} {p : Nat} {s : Snp} {vi vd vc : Value} (h : LdS w0 w p s vi vd vc) {S : List Nat} (f : Fr S w w') (hS : ∀ q ∈ S, q < w0.heap.size) : SnpIn w' s vi vd vc :=
  ⟨ito_its (owns_frB h.it f hS), ddo_rows (owns_frB h.dd f hS), cuo_rows (owns_frB h.cu f hS)⟩
/-- Three lists of records are made a snapshot. -/
theorem snpOf_def (b : Rc) (n0 n1 n2 n3 n4 n5 n6 : UInt64) (h : b.n = [n0, n1, n2, n3, n4, n5, n6]) (l r c : List Rc) : snpOf b l r c = ⟨n0, n1, n2, n3, n4, l.map liveOf, r.map deadOf, c.map curOf, n5, n6⟩ := by
  unfold snpOf nAt
  rw [h]; rfl
end Go.Proofs.YtpbmbjdiilnaeaaDoor

