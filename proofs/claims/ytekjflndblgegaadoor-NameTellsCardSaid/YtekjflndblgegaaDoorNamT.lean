/- The document's names: Read. -/
import Derived.Test.YtekjflndblgegaaDoorNamR
set_option linter.unusedSimpArgs false
set_option linter.unusedVariables false
namespace Go.Proofs.YtekjflndblgegaaDoor
open Go Go.RowKit Go.Tum Go.ChangeMaps Go.Sort Go.Nam

theorem ixS (s : List UInt8) (i : Nat) (h : i < s.length) (W : World) : (Instr.index 9 (.string (str s)) (.int .i64 (i : Int))).run Tryd.prog W = .ok (u8V s[i]) W := by
  rw [run_index_string (h := Tryd.underlying9), dif_pos ⟨by omega, by rw [str_size]; omega⟩]
  rfl
theorem ofL_good14 {k : UInt8} {n : Nat} (h : letL k = true ∧ n < 10000000000) : ofL k n = (nameL k n, 0) := by
  unfold ofL
  rw [if_pos (by simpa using h)]
/-- Digits, and the number that they are. -/
structure VL (l : List UInt8) (v : Nat) : Prop where
  dg : ∀ b ∈ l, 48 ≤ b.toNat ∧ b.toNat ≤ 57
  vl : v = l.foldl (fun a (b : UInt8) => 10 * a + (b.toNat - 48)) 0
  lt : v < 10 ^ l.length
theorem VL.nil : VL [] 0 := ⟨fun b h => by simp at h, rfl, by simp⟩
theorem VL.snoc {l : List UInt8} {v : Nat} {b : UInt8} (h : VL l v) (h1 : 48 ≤ b.toNat) (h2 : b.toNat ≤ 57) : VL (l ++ [b]) (10 * v + (b.toNat - 48)) := by
  refine ⟨fun x hx => ?_, by rw [List.foldl_append, ← h.vl]; rfl, ?_⟩
  · rcases List.mem_append.1 hx with q | q
    · exact h.dg x q
    · rw [List.mem_singleton.1 q]; exact ⟨h1, h2⟩
  · rw [List.length_append, List.length_singleton, Nat.pow_succ]
    have := h.lt
    omega
theorem num_val : ∀ (l : List UInt8) (f : Bool) (n m : Nat), num f n l = some m → (∀ b ∈ l, 48 ≤ b.toNat ∧ b.toNat ≤ 57) ∧ m = l.foldl (fun a (b : UInt8) => 10 * a + (b.toNat - 48)) n
  | [], f, n, m, h => by
    unfold num at h
    cases h
    exact ⟨fun b hb => by simp at hb, rfl⟩
  | b :: r, f, n, m, h => by
    unfold num at h
    split at h
    · rename_i hc
      simp only [Bool.and_eq_true, decide_eq_true_eq] at hc
      obtain ⟨q1, q2⟩ := num_val r _ _ m h
      exact ⟨fun x hx => by
        rcases List.mem_cons.1 hx with rfl | q
        · exact ⟨hc.1, hc.2.1⟩
        · exact q1 x q, q2⟩
    · cases h
theorem readL_parts {k p : UInt8} {ds : List UInt8} {k' : UInt8} {n : Nat} (h : readL (k :: p :: ds) = some (k', n)) : k' = k ∧ p = 46 ∧ 1 ≤ ds.length ∧ ds.length ≤ 10 ∧ num true 0 ds = some n := by
  unfold readL at h
  simp only at h
  split at h
  · rename_i hc
    simp only [Bool.and_eq_true, decide_eq_true_eq, beq_iff_eq] at hc
    cases hn : num true 0 ds with
    | none => rw [hn] at h; cases h
    | some m => rw [hn] at h; cases h; exact ⟨rfl, hc.2.1, hc.2.2.1, hc.2.2.2, rfl⟩
  · cases h
/-- What the document's test says. -/
theorem read_iff {k : UInt8} {ds : List UInt8} {v : Nat} (hv : VL ds v) : readL (k :: 46 :: ds) = if (ofL k v).2 = 0 ∧ (ofL k v).1 = k :: 46 :: ds then some (k, v) else none := by
  by_cases h : (ofL k v).2 = 0 ∧ (ofL k v).1 = k :: 46 :: ds
  · rw [if_pos h]
    by_cases hg : letL k = true ∧ v < 10000000000
    · rw [ofL_good14 hg] at h
      rw [← h.2]
      exact read_name hg.1 hg.2
    · rw [ofL_bad14 hg] at h
      exact absurd h.1 (by decide)
  · rw [if_neg h]
    cases hr : readL (k :: 46 :: ds) with
    | none => rfl
    | some q =>
      obtain ⟨k', n⟩ := q
      obtain ⟨rfl, -, -, -, hn⟩ := readL_parts hr
      have hnv : n = v := by rw [(num_val _ _ _ _ hn).2, hv.vl]
      subst hnv
      obtain ⟨e1, e2, e3⟩ := name_read hr
      exact absurd (by rw [ofL_good14 ⟨e2, e3⟩]; exact ⟨rfl, e1.symm⟩) h
theorem readL_short {s : List UInt8} (h : s.length < 3) : readL s = none := by
  match s, h with
  | [], _ => rfl
  | [a], _ => rfl
  | [a, b], _ => unfold readL; simp
theorem readL_long {s : List UInt8} (h : 12 < s.length) : readL s = none := by
  match s, h with
  | k :: p :: ds, h =>
    cases hr : readL (k :: p :: ds) with
    | none => rfl
    | some q =>
      obtain ⟨k', n⟩ := q
      have := readL_parts hr
      simp at h
      omega
set_option maxRecDepth 100000 in
set_option maxHeartbeats 4000000 in
theorem rread_any (s : List UInt8) (w : World) (hs : s.length ≤ 1048576) :
    Calls Tryd.prog 11 #[.string (str s)] w fun e w' => e = .returned (readV s) ∧ Ext w w' := by
  by_cases h3 : s.length < 3
  · have hd : decide (((str s).size : Int) < 3) = true := by rw [str_size]; simp; omega
    have HO := hid (readV_none (readL_short h3))
    clear h3
    go_enter Tryd.func11, Tryd.ntmps11
    go_wp2
    go_returns
    rw [HO.out]
    exact ⟨rfl, Ext.refl _⟩
  have hd : decide (((str s).size : Int) < 3) = false := by rw [str_size]; simp; omega
  by_cases h12 : 12 < s.length
  · have hd2 : decide ((12 : Int) < ((str s).size : Int)) = true := by rw [str_size]; simp; omega
    have HO := hid (readV_none (readL_long h12))
    clear h3 h12
    go_enter Tryd.func11, Tryd.ntmps11
    go_wp2
    go_returns
    rw [HO.out]
    exact ⟨rfl, Ext.refl _⟩
  have hd2 : decide ((12 : Int) < ((str s).size : Int)) = false := by rw [str_size]; simp; omega
  obtain ⟨k, p, ds, rfl⟩ : ∃ k p ds, s = k :: p :: ds := by
    match s, h3 with
    | k :: p :: ds, _ => exact ⟨k, p, ds, rfl⟩
    | [a], h => simp at h
    | [], h => simp at h
  have e3 : (k :: p :: ds).length = ds.length + 2 := by simp
  have hdl : ds.length ≤ 10 := by omega
  have hx0 : ∀ W, (Instr.index 9 (.string (str (k :: p :: ds))) (.int .i64 0)).run Tryd.prog W = .ok (u8V k) W := fun W => ixS (k :: p :: ds) 0 (by simp) W
  have hx1 : ∀ W, (Instr.index 9 (.string (str (k :: p :: ds))) (.int .i64 1)).run Tryd.prog W = .ok (u8V p) W := fun W => ixS (k :: p :: ds) 1 (by simp) W
  by_cases hp : p = 46
  case neg =>
    have hpb : ((p.toNat : Int) != 46) = true := by
      rw [bne_iff_ne]
      intro e
      exact hp (UInt8.toNat_inj.1 (by show p.toNat = 46; omega))
    have HO : Hid (readV (k :: p :: ds) = .tuple #[.int .u8 0, .int .u64 0, .bool false]) := hid (readV_none (by
      cases hr : readL (k :: p :: ds) with
      | none => rfl
      | some q =>
        obtain ⟨k', n⟩ := q
        exact absurd (readL_parts hr).2.1 hp))
    clear hp h3 h12 e3
    go_enter Tryd.func11, Tryd.ntmps11
    go_wp2
    go_returns
    rw [HO.out]
    exact ⟨rfl, Ext.refl _⟩
  subst hp
  obtain ⟨S, hS⟩ : ∃ S, k :: 46 :: ds = S := ⟨_, rfl⟩
  have HS := hid hS
  have hsl : S.length = ds.length + 2 := by rw [← hS]; simp
  have HSL := hid hsl
  have hss : ((str S).size : Int) = (S.length : Int) := by rw [str_size]
  obtain ⟨R, hR⟩ : ∃ R, readV (k :: 46 :: ds) = R := ⟨_, rfl⟩
  rw [hR]
  have HR := hid hR
  rw [hS] at hd hd2 hx0 hx1 ⊢
  have hq1 : decide ((S.length : Int) < 3) = false := by rw [← hss]; exact hd
  have hq2 : decide ((12 : Int) < (S.length : Int)) = false := by rw [← hss]; exact hd2
  have hq3 : ¬ ((S.length : Int) < 3) := by simpa using hq1
  have hq4 : ¬ ((12 : Int) < (S.length : Int)) := by simpa using hq2
  clear hS hsl hR h3 h12 e3 hs
  go_enter Tryd.func11, Tryd.ntmps11
  go_wp2_with fail
  go_loopw [5, 6] (fun nv iv wr => ∃ (i v : Nat), 2 ≤ i ∧ i ≤ S.length ∧ nv = .int .u64 (v : Int) ∧ iv = .int .i64 (i : Int) ∧ Hid (VL (ds.take (i - 2)) v) ∧ wr = w) (fun _ iv _ => S.length - (intOf iv).toNat)
  case atStart => exact ⟨2, 0, by omega, by have := HSL.out; omega, rfl, rfl, hid VL.nil, rfl⟩
  case round =>
    obtain ⟨i, v, hi2, hil, rfl, rfl, HV, rfl⟩ := hrel
    by_cases hlt : i < S.length
    · have hij : decide ((i : Int) < (S.length : Int)) = true := by simp; omega
      have hids : i - 2 < ds.length := by have := HSL.out; omega
      obtain ⟨b, hb⟩ : ∃ b, S[i] = b := ⟨_, rfl⟩
      have hx := ixS S i hlt
      rw [hb] at hx
      have hbd : ds[i - 2] = b := by
        have e : S[i]? = ds[i - 2]? := by
          rw [← HS.out]
          obtain ⟨j, rfl⟩ : ∃ j, i = j + 2 := ⟨i - 2, by omega⟩
          simp
        rw [List.getElem?_eq_getElem hlt, List.getElem?_eq_getElem hids, hb] at e
        exact (Option.some.inj e).symm
      have HBD : Hid (ds.take (i - 2 + 1) = ds.take (i - 2) ++ [b]) := hid (by rw [List.take_succ_eq_append_getElem hids, hbd])
      have HBM : Hid (b ∈ ds) := hid (by rw [← hbd]; exact List.getElem_mem hids)
      have HLT := hid (And.intro hlt hids)
      clear hb hbd hids
      have bad : (b.toNat < 48 ∨ 57 < b.toNat) → Hid (R = .tuple #[.int .u8 0, .int .u64 0, .bool false]) := fun hbb => hid (by
        rw [← HR.out]
        refine readV_none ?_
        cases hr : readL (k :: 46 :: ds) with
        | none => rfl
        | some q =>
          obtain ⟨k', n⟩ := q
          have h5 := (readL_parts hr).2.2.2.2
          have := (num_val _ _ _ _ h5).1 b HBM.out
          omega)
      by_cases hb1 : b.toNat < 48
      · have HO := bad (.inl hb1)
        have hd3 : decide ((b.toNat : Int) < 48) = true := by simp; omega
        clear bad
        go_wp2
        go_returns
        rw [HO.out]
        exact ⟨rfl, Ext.refl _⟩
      have hd3 : decide ((b.toNat : Int) < 48) = false := by simp; omega
      by_cases hb2 : 57 < b.toNat
      · have HO := bad (.inr hb2)
        have hd4 : decide ((57 : Int) < (b.toNat : Int)) = true := by simp; omega
        clear bad hb1
        go_wp2
        go_returns
        rw [HO.out]
        exact ⟨rfl, Ext.refl _⟩
      have hd4 : decide ((57 : Int) < (b.toNat : Int)) = false := by simp; omega
      have hvb : v < 10000000000 := by
        have h1 := HV.out.lt
        have h2 : (ds.take (i - 2)).length ≤ 10 := by rw [List.length_take]; omega
        have h3 := Nat.pow_le_pow_right (n := 10) (by omega) h2
        omega
      have HV2 : Hid (VL (ds.take (i + 1 - 2)) (10 * v + (b.toNat - 48))) := hid (by
        rw [show i + 1 - 2 = i - 2 + 1 by omega, HBD.out]
        exact HV.out.snoc (by omega) (by omega))
      obtain ⟨v1, hv1⟩ : ∃ v1, v1 = 10 * v := ⟨_, rfl⟩
      obtain ⟨c, hc⟩ : ∃ c, c = b.toNat - 48 := ⟨_, rfl⟩
      obtain ⟨v2, hv2⟩ : ∃ v2, v2 = 10 * v + (b.toNat - 48) := ⟨_, rfl⟩
      rw [← hv2] at HV2
      have hw1 : IntKind.u64.wrap (10 * (v : Int)) = (v1 : Int) := by rw [IntKind.wrap_u64]; omega
      have hw2 : IntKind.u8.wrap ((b.toNat : Int) - 48) = (c : Int) := by rw [IntKind.wrap_u8]; omega
      have hw3 : IntKind.u64.wrap (c : Int) = (c : Int) := by rw [IntKind.wrap_u64]; omega
      have hw4 : IntKind.u64.wrap ((v1 : Int) + (c : Int)) = (v2 : Int) := by rw [IntKind.wrap_u64]; omega
      have hwi : IntKind.i64.wrap ((i : Int) + 1) = ((i + 1 : Nat) : Int) := i64v _ (by omega) (by have := HSL.out; omega)
      clear hv1 hc hv2 hb1 hb2 bad hvb
      go_wp2
      go_roundw
      case rel => exact ⟨i + 1, v2, by omega, HLT.out.1, by first | rfl | go_num, by first | rfl | go_num, HV2, by first | rfl | trivial⟩
      case measure => have := HLT.out.1; simp [intOf]; omega
    · have hij : decide ((i : Int) < (S.length : Int)) = false := by simp; omega
      have hij2 : (i < S.length) = False := by simp; omega
      have HV2 : Hid (VL ds v) := hid (by have := HV.out; rw [List.take_of_length_le (by have := HSL.out; omega)] at this; exact this)
      have hvb : v < 10000000000 := by
        have h1 := HV2.out.lt
        have h3 := Nat.pow_le_pow_right (n := 10) (by omega) hdl
        omega
      have hri := read_iff (k := k) HV2.out
      have hc := rof_any k v (by omega) wr
      obtain ⟨O, hO⟩ : ∃ O, ofL k v = O := ⟨_, rfl⟩
      rw [hO] at hc hri
      obtain ⟨t, er⟩ := O
      have HC := hid hc
      have HRI := hid hri
      clear hc hri hO hlt hvb HV
      go_wp2_with fail
      refine HC.out.mono ?_
      rintro e w1 ⟨rfl, hx⟩
      have HX := hid hx
      dsimp only
      clear hx HC
      by_cases he : er = 0
      · subst he
        by_cases ht : t = S
        · have HO : Hid (R = .tuple #[u8V k, .int .u64 (v : Int), .bool true]) := hid (by
            rw [← HR.out]
            refine readV_some ?_
            rw [HRI.out, if_pos ⟨rfl, by rw [HS.out]; exact ht⟩])
          have htb : (t == S) = true := by simpa using ht
          have htb2 : (t != S) = false := by simpa using ht
          clear ht
          go_wp2
          go_returns
          rw [HO.out]
          exact ⟨rfl, HX.out⟩
        · have HO : Hid (R = .tuple #[.int .u8 0, .int .u64 0, .bool false]) := hid (by
            rw [← HR.out]
            refine readV_none ?_
            rw [HRI.out, if_neg (fun q => ht (by rw [← HS.out]; exact q.2))])
          have htb : (t == S) = false := by simpa using ht
          have htb2 : (t != S) = true := by simpa using ht
          clear ht
          go_wp2
          go_returns
          rw [HO.out]
          exact ⟨rfl, HX.out⟩
      · have HO : Hid (R = .tuple #[.int .u8 0, .int .u64 0, .bool false]) := hid (by
          rw [← HR.out]
          refine readV_none ?_
          rw [HRI.out, if_neg (fun q => he q.1)])
        have heb : (er != 0) = true := by simpa using he
        clear he
        go_wp2
        go_returns
        rw [HO.out]
        exact ⟨rfl, HX.out⟩
end Go.Proofs.YtekjflndblgegaaDoor
