/- EventsSure: what its walk wants.
Package events: Begin, Append, Sync, Load, Cut.
Events' laws: own, same, Large.
Events' laws: states; awake.
A disk's step beside bytes that lie elsewhere.
Rows of acts as arguments. -/
import Derived.Test.YtinancnlangkjaaGreatDoorEvMA
import Derived.Test.YtinancnlangkjaaGreatDoorNamMA
import Derived.Test.YtinancnlangkjaaGreatDoorDskMK
import Derived.Test.YtinancnlangkjaaGreatDoorRecGC
import Derived.Test.YtinancnlangkjaaGreatDoorOpenV
import Derived.Test.YtinancnlangkjaaGreatDoorOpen
import Derived.SizedLaws
set_option linter.unusedSimpArgs false
set_option linter.unusedVariables false
set_option maxRecDepth 100000
namespace Go.Proofs.YtinancnlangkjaaGreatDoor
open Go Go.RowKit Go.Tum Go.ChangeMaps Go.Tum.Crc Go.Tum.Vint Go.Tum.Opm Go.Nam

theorem Pw.ext15 {w w' : World} (h : Pw w) (k : Ext w w') : Pw w' := by
  have h2 : (match w.heap[2]? with | some (Obj.cells cs _ _) => some cs | _ => none) = some (List.map (fun z => Value.int IntKind.u64 z) Lib.pow10Tab).toArray := h
  show (match w'.heap[2]? with | some (Obj.cells cs _ _) => some cs | _ => none) = some (List.map (fun z => Value.int IntKind.u64 z) Lib.pow10Tab).toArray
  cases hw : w.heap[2]? with
  | none => rw [hw] at h2; cases h2
  | some o => rw [k.obj hw]; rw [hw] at h2; exact h2
theorem fr_keep {S : List Nat} {w w' : World} (f : Fr S w w') {b : Nat} {o : Obj} (hb : w.heap[b]? = some o) (hn : b ∉ S) : w'.heap[b]? = some o :=
  (f.block b (Array.getElem?_eq_some_iff.1 hb).1 hn).trans hb
/-- A step of the disk: what lies elsewhere stays, and stays elsewhere. -/
theorem Stp.keep {B : Nat} {w w' : World} {p : Nat} {x : DX} {s : PS} (h : Stp B w p x s w') :
    ∃ x', Dk B w' p x' s ∧ Below B w w' ∧ Fr (x.blk p) w w' ∧ (∀ q ∈ x'.blk p, q ∈ x.blk p ∨ w.heap.size ≤ q) ∧ ∀ b o, w.heap[b]? = some o → b ∉ x.blk p → w'.heap[b]? = some o ∧ b ∉ x'.blk p := by
  obtain ⟨x', d, f, bl, q⟩ := h
  refine ⟨x', d, bl, f, q, fun b o hb hn => ⟨fr_keep f hb hn, fun hm => ?_⟩⟩
  have hl := (Array.getElem?_eq_some_iff.1 hb).1
  rcases q b hm with h1 | h1
  · exact hn h1
  · omega
theorem Stp.ext0 {B : Nat} {w w1 w2 : World} {p : Nat} {x : DX} {s s2 : PS} (h : Dk B w p x s) (k : Ext w w1) (hB : B ≤ w.heap.size) (h2 : Stp B w1 p x s2 w2) : Stp B w p x s2 w2 :=
  Stp.after h (Ext.fr k) (k.mono hB) h2
theorem Stp.then {B : Nat} {w w1 w' : World} {p : Nat} {x : DX} {s s' : PS} (h : Stp B w p x s w1) (k : ∀ x1, Dk B w1 p x1 s → Stp B w1 p x1 s' w') : Stp B w p x s' w' := by
  obtain ⟨x1, d1, f1, b1, q1⟩ := h
  obtain ⟨x2, d2, f2, b2, q2⟩ := k x1 d1
  refine ⟨x2, d2, ⟨f2.os.trans f1.os, f2.tape.trans f1.tape, f2.output.trans f1.output, Nat.le_trans f1.size f2.size, fun j hj hn => (f2.block j (Nat.lt_of_lt_of_le hj f1.size) fun hm => ?_).trans (f1.block j hj hn)⟩, b1.trans b2, fun c hc => ?_⟩
  · rcases q1 j hm with h1 | h1
    · exact hn h1
    · omega
  · rcases q2 c hc with h1 | h1
    · exact q1 c h1
    · exact .inr (Nat.le_trans f1.size h1)
theorem Stp.join {B : Nat} {w w1 w' : World} {p : Nat} {x x1 : DX} {s' : PS} (f1 : Fr (x.blk p) w w1) (b1 : Below B w w1) (q1 : ∀ q ∈ x1.blk p, q ∈ x.blk p ∨ w.heap.size ≤ q) (k : Stp B w1 p x1 s' w') : Stp B w p x s' w' := by
  obtain ⟨x2, d2, f2, b2, q2⟩ := k
  refine ⟨x2, d2, ⟨f2.os.trans f1.os, f2.tape.trans f1.tape, f2.output.trans f1.output, Nat.le_trans f1.size f2.size, fun j hj hn => (f2.block j (Nat.lt_of_lt_of_le hj f1.size) fun hm => ?_).trans (f1.block j hj hn)⟩, b1.trans b2, fun c hc => ?_⟩
  · rcases q1 j hm with h1 | h1
    · exact hn h1
    · omega
  · rcases q2 c hc with h1 | h1
    · exact q1 c h1
    · exact .inr (Nat.le_trans f1.size h1)
theorem Stp.more0 {B : Nat} {w w1 w2 : World} {p : Nat} {x : DX} {s : PS} (h : Stp B w p x s w1) (k : Ext w1 w2) (hB : B ≤ w.heap.size) : Stp B w p x s w2 :=
  h.then fun x1 d1 => Stp.same d1 k (by obtain ⟨_, _, f, _⟩ := h; exact Nat.le_trans hB f.size)
/-- The name of a generation's file. -/
theorem ofE_any (n : UInt64) (w : World) (hp : Pw w) : Calls Tryz.prog 37 #[.int .u8 101, uv n] w fun e w' => (n.toNat < 10000000000 → e = .returned (.tuple #[vN (evN n.toNat), .int .i64 0])) ∧ (10000000000 ≤ n.toNat → e = .returned (.tuple #[vN [], .int .i64 1])) ∧ Ext w w' := by
  have h := nof_any 101 n.toNat n.toNat_lt w hp
  refine Calls.mono h ?_
  rintro e w' ⟨rfl, hx⟩
  refine ⟨fun hn => ?_, fun hn => ?_, hx⟩
  · have : ofL 101 n.toNat = (evN n.toNat, 0) := by
      unfold ofL
      rw [if_pos (by simp [hn]; decide)]
    rw [this]
  · have : ofL 101 n.toNat = ([], 1) := by
      unfold ofL
      rw [if_neg (by simp; intro; omega)]
    rw [this]
section
variable {B : Nat} {w : World} {p : Nat} {x : DX} {s : PS}
set_option maxHeartbeats 1000000 in
theorem ebegin_any (gen : UInt64) (h : Dk B w p x s) (hB : B ≤ w.heap.size) (hw : WF s) (hl : s.opn.length ≤ 100000) (hp : Pw w) :
    Calls Tryz.prog 9 #[pv p, uv gen] w fun e w' => DoR B w p x (evB s gen) e w' := by
  have HP := hid hp
  have H := hid h
  have HB := hid hB
  have HL := hid hl
  have HW := hid hw
  obtain ⟨R, hR⟩ : ∃ R, evB s gen = R := ⟨_, rfl⟩
  rw [hR]
  unfold evB at hR
  have HR := hid hR
  clear h hB hw hl hp hR
  go_enter Tryz.func9, Tryz.ntmps9
  go_wp2_with fail
  refine Calls.mono (ofE_any gen w HP.out) ?_
  rintro e w1 ⟨k1, k2, hx⟩
  have HX := hid hx
  by_cases hg : 10000000000 ≤ gen.toNat
  · obtain rfl := k2 hg
    have HQ : Hid ((1, s) = R) := hid (by rw [← HR.out, if_pos hg])
    clear k1 k2 hx hg
    go_wp2
    go_returns
    rw [← HQ.out]
    exact ⟨rfl, Stp.same H.out HX.out HB.out⟩
  · obtain rfl := k1 (by omega)
    have HQ := HR
    rw [if_neg hg] at HQ
    have HN : Hid ((evN gen.toNat).length ≤ maxLen) := hid (evN_max (by omega))
    obtain ⟨n, hn⟩ : ∃ n, evN gen.toNat = n := ⟨_, rfl⟩
    rw [hn] at HQ HN ⊢
    clear k1 k2 hx hg hn HR
    go_wp2_with fail
    refine Calls.mono (dcreate_any n HN.out (H.out.ext HX.out) (Nat.le_trans HB.out HX.out.size) (HW.out.cre n).gd HL.out) ?_
    rintro e w2 ⟨rfl, hs⟩
    have HS := hid (Stp.ext0 H.out HX.out HB.out hs)
    have HW2 := hid (HW.out.cre n)
    clear hs
    obtain ⟨C, hC⟩ : ∃ C, creP s n = C := ⟨_, rfl⟩
    rw [hC] at HS HQ HW2
    try rw [hC]
    obtain ⟨c, s2⟩ := C
    clear hC
    dsimp only at HS HQ HW2 ⊢
    by_cases hc : c = 0
    · subst hc
      have HQ2 : Hid (synP s2 n = R) := hid (by rw [← HQ.out, if_neg (by simp)])
      clear HQ
      obtain ⟨x2, d2, bl2, f2, q2, -⟩ := HS.out.keep
      have D2 := hid d2
      have HB2 := hid (Nat.le_trans HB.out f2.size)
      have HJ := hid (fun s' w' (k : Stp B w2 p x2 s' w') => Stp.join f2 bl2 q2 k)
      clear d2 bl2 f2 q2
      go_wp2_with fail
      refine Calls.mono (dsync_any n HN.out D2.out HB2.out (HW2.out.syn n).gd) ?_
      rintro e w3 ⟨rfl, hs⟩
      have HS3 := hid (HJ.out _ _ hs)
      clear hs HJ
      go_wp2
      go_returns
      rw [← HQ2.out]
      exact ⟨rfl, HS3.out⟩
    · have hc1 : ((c : Int) != 0) = true := by simp; omega
      have HQ2 : Hid ((c, s2) = R) := hid (by rw [← HQ.out, if_pos hc])
      clear HQ hc
      go_wp2
      go_returns
      rw [← HQ2.out]
      exact ⟨rfl, HS.out⟩
set_option maxHeartbeats 1000000 in
theorem esync_any (gen : UInt64) (h : Dk B w p x s) (hB : B ≤ w.heap.size) (hw : WF s) (hp : Pw w) :
    Calls Tryz.prog 14 #[pv p, uv gen] w fun e w' => DoR B w p x (evS s gen) e w' := by
  have HP := hid hp
  have H := hid h
  have HB := hid hB
  have HW := hid hw
  obtain ⟨R, hR⟩ : ∃ R, evS s gen = R := ⟨_, rfl⟩
  rw [hR]
  unfold evS at hR
  have HR := hid hR
  clear h hB hw hp hR
  go_enter Tryz.func14, Tryz.ntmps14
  go_wp2_with fail
  refine Calls.mono (ofE_any gen w HP.out) ?_
  rintro e w1 ⟨k1, k2, hx⟩
  have HX := hid hx
  by_cases hg : 10000000000 ≤ gen.toNat
  · obtain rfl := k2 hg
    have HQ : Hid ((1, s) = R) := hid (by rw [← HR.out, if_pos hg])
    clear k1 k2 hx hg
    go_wp2
    go_returns
    rw [← HQ.out]
    exact ⟨rfl, Stp.same H.out HX.out HB.out⟩
  · obtain rfl := k1 (by omega)
    have HQ := HR
    rw [if_neg hg] at HQ
    have HN : Hid ((evN gen.toNat).length ≤ maxLen) := hid (evN_max (by omega))
    obtain ⟨n, hn⟩ : ∃ n, evN gen.toNat = n := ⟨_, rfl⟩
    rw [hn] at HQ HN ⊢
    clear k1 k2 hx hg hn HR
    go_wp2_with fail
    refine Calls.mono (dsync_any n HN.out (H.out.ext HX.out) (Nat.le_trans HB.out HX.out.size) (HW.out.syn n).gd) ?_
    rintro e w2 ⟨rfl, hs⟩
    have HS := hid (Stp.ext0 H.out HX.out HB.out hs)
    clear hs
    go_wp2
    go_returns
    rw [← HQ.out]
    exact ⟨rfl, HS.out⟩
set_option maxHeartbeats 1000000 in
theorem eread_any (gen : UInt64) (h : Dk B w p x s) (hp : Pw w) :
    Calls Tryz.prog 50 #[pv p, uv gen] w fun e w' => (∃ v, e = .returned (.tuple #[v, .int .i64 ((evR s gen).2 : Nat)]) ∧ Own w' w.heap.size 5 v (evR s gen).1) ∧ Ext w w' := by
  have HP := hid hp
  have H := hid h
  obtain ⟨R, hR⟩ : ∃ R, evR s gen = R := ⟨_, rfl⟩
  rw [hR]
  unfold evR at hR
  have HR := hid hR
  clear h hp hR
  go_enter Tryz.func50, Tryz.ntmps50
  go_wp2_with fail
  refine Calls.mono (ofE_any gen w HP.out) ?_
  rintro e w1 ⟨k1, k2, hx⟩
  have HX := hid hx
  by_cases hg : 10000000000 ≤ gen.toNat
  · obtain rfl := k2 hg
    have HQ : Hid (([], 1) = R) := hid (by rw [← HR.out, if_pos hg])
    clear k1 k2 hx hg
    go_wp2
    go_returns
    rw [← HQ.out]
    exact ⟨⟨_, rfl, Own.nil _ _ _⟩, HX.out⟩
  · obtain rfl := k1 (by omega)
    have HQ := HR
    rw [if_neg hg] at HQ
    have HN : Hid ((evN gen.toNat).length ≤ maxLen) := hid (evN_max (by omega))
    obtain ⟨n, hn⟩ : ∃ n, evN gen.toNat = n := ⟨_, rfl⟩
    rw [hn] at HQ HN ⊢
    clear k1 k2 hx hg hn HR
    go_wp2_with fail
    refine Calls.mono (dread_any n HN.out (H.out.ext HX.out)) ?_
    rintro e w2 ⟨⟨v, rfl, ho⟩, hx2⟩
    have HO := hid (ho.mono HX.out.size)
    have HX2 := hid (HX.out.trans hx2)
    clear ho hx2
    go_wp2
    go_returns
    rw [← HQ.out]
    exact ⟨⟨_, rfl, HO.out⟩, HX2.out⟩
set_option maxHeartbeats 1000000 in
theorem ecut_any (gen : UInt64) (k : Int) (h : Dk B w p x s) (hB : B ≤ w.heap.size) (hw : WF s) (hp : Pw w) :
    Calls Tryz.prog 20 #[pv p, uv gen, .int .i64 k] w fun e w' => DoR B w p x (evC s gen k) e w' := by
  have HP := hid hp
  have H := hid h
  have HB := hid hB
  have HW := hid hw
  obtain ⟨R, hR⟩ : ∃ R, evC s gen k = R := ⟨_, rfl⟩
  rw [hR]
  unfold evC at hR
  have HR := hid hR
  have hc := eread_any gen h hp
  have hbig : (evR s gen).2 = 0 → ¬ 10000000000 ≤ gen.toNat := fun h1 h2 => by unfold evR at h1; rw [if_pos h2] at h1; cases h1
  obtain ⟨D, hD⟩ : ∃ D, evR s gen = D := ⟨_, rfl⟩
  rw [hD] at HR hc hbig
  obtain ⟨b, er⟩ := D
  dsimp only at HR hc hbig
  have HBIG := hid hbig
  have HC := hid hc
  clear h hB hw hp hR hc hD hbig
  go_enter Tryz.func20, Tryz.ntmps20
  go_wp2_with fail
  refine HC.out.mono ?_
  rintro e w1 ⟨⟨v, rfl, ho⟩, hx⟩
  obtain ⟨vo, vc, rfl⟩ := row_shape ho
  have HX := hid hx
  clear hx ho HC
  by_cases he : er = 0
  · subst he
    have HR1 : Hid ((if (b.length : Int) ≤ k then (0, s) else cutP s (evN gen.toNat) k) = R) := hid (by have h := HR.out; rw [if_neg (by simp)] at h; exact h)
    have HBG : Hid (¬ 10000000000 ≤ gen.toNat) := hid (HBIG.out rfl)
    clear HR HBIG
    obtain ⟨bl, hbl⟩ : ∃ n, b.length = n := ⟨_, rfl⟩
    rw [hbl] at HR1
    try rw [hbl]
    clear hbl
    by_cases hk : (bl : Int) ≤ k
    · have hd : decide ((bl : Int) ≤ k) = true := by simpa using hk
      have HQ : Hid ((0, s) = R) := hid (by rw [← HR1.out, if_pos hk])
      clear HR1
      go_wp2
      go_returns
      rw [← HQ.out]
      exact ⟨rfl, Stp.same H.out HX.out HB.out⟩
    · have hd : decide ((bl : Int) ≤ k) = false := by simpa using hk
      have hd2 : ((bl : Int) ≤ k) = False := by simpa using hk
      have HQ : Hid (cutP s (evN gen.toNat) k = R) := hid (by rw [← HR1.out, if_neg hk])
      clear HR1 hk
      go_wp2_with fail
      refine Calls.mono (ofE_any gen w1 (HP.out.ext15 HX.out)) ?_
      rintro e w2 ⟨k1, -, hx⟩
      have HX2 := hid (HX.out.trans hx)
      obtain rfl := k1 (by have := HBG.out; omega)
      have HN : Hid ((evN gen.toNat).length ≤ maxLen) := hid (evN_max (by have := HBG.out; omega))
      obtain ⟨n, hn⟩ : ∃ n, evN gen.toNat = n := ⟨_, rfl⟩
      rw [hn] at HQ HN ⊢
      clear k1 hx hn
      go_wp2_with fail
      refine Calls.mono (dcut_any n k HN.out (H.out.ext HX2.out) (Nat.le_trans HB.out HX2.out.size) (HW.out.cut n k).gd) ?_
      rintro e w3 ⟨rfl, hs⟩
      have HS := hid (Stp.ext0 H.out HX2.out HB.out hs)
      clear hs
      go_wp2
      go_returns
      rw [← HQ.out]
      exact ⟨rfl, HS.out⟩
  · have he1 : ((er : Int) != 0) = true := by simp; omega
    have HQ : Hid ((er, s) = R) := hid (by rw [← HR.out, if_pos he])
    clear HR he
    go_wp2
    go_returns
    rw [← HQ.out]
    exact ⟨rfl, Stp.same H.out HX.out HB.out⟩
theorem map_len {m : List (Rc × Value)} {l : List Rc} (h : m.map (·.1) = l) : m.length = l.length := by rw [← h, List.length_map]
/-- Append. -/
theorem allB_map : ∀ {l : List Oq}, allR l = true → ((l.map opRec).map recB).flatten = opsB l ∧ (l.map opRec).all rightB = true
  | [], _ => ⟨rfl, rfl⟩
  | o :: r, h => by
    simp only [allR, List.all_cons, Bool.and_eq_true] at h
    obtain ⟨h1, h2⟩ := allB_map (l := r) h.2
    refine ⟨?_, ?_⟩
    · rw [List.map_cons, List.map_cons, List.flatten_cons, h1]; rfl
    · rw [List.map_cons, List.all_cons, (rec_back h.1).1, h2]; rfl
theorem recB_ne {r : Rc} (h : rightB r = true) : recB r ≠ [] := fun e => by have := (recB_len h).1; rw [e] at this; simp at this
set_option maxHeartbeats 1000000 in
theorem eappend_any (gen : UInt64) (l : List Oq) (v : Value) (h : Dk B w p x s) (hB : B ≤ w.heap.size) (hw : WF s) (hv : Ops w v l) (hl : l.length ≤ 2000) (hp : Pw w) (ht : Tab w) :
    Calls Tryz.prog 11 #[pv p, uv gen, v] w fun e w' => DoR B w p x (evA s gen l) e w' := by
  have HP := hid hp
  have HT := hid ht
  have H := hid h
  have HB := hid hB
  have HW := hid hw
  have HV := hid hv
  have HL := hid hl
  obtain ⟨vo, vc, rfl, -⟩ := hv.open
  obtain ⟨R, hR⟩ : ∃ R, evA s gen l = R := ⟨_, rfl⟩
  rw [hR]
  unfold evA at hR
  have HR := hid hR
  clear h hB hw hp hR hv hl ht
  go_enter Tryz.func11, Tryz.ntmps11
  go_wp2_with fail
  refine Calls.mono (ofE_any gen w HP.out) ?_
  rintro e w1 ⟨k1, k2, hx⟩
  have HX := hid hx
  by_cases hg : 10000000000 ≤ gen.toNat
  · obtain rfl := k2 hg
    have HQ : Hid ((1, s) = R) := hid (by rw [← HR.out, if_pos hg])
    clear k1 k2 hx hg
    go_wp2
    go_returns
    rw [← HQ.out]
    exact ⟨rfl, Stp.same H.out HX.out HB.out⟩
  · obtain rfl := k1 (by omega)
    have HQ := HR
    rw [if_neg hg] at HQ
    have HN : Hid ((evN gen.toNat).length ≤ maxLen) := hid (evN_max (by omega))
    obtain ⟨n, hn⟩ : ∃ n, evN gen.toNat = n := ⟨_, rfl⟩
    rw [hn] at HQ HN ⊢
    clear k1 k2 hx hg hn HR
    go_wp2_with fail
    refine Calls.mono (each1_any (.slice vo l.length vc) l w1 (HV.out.ext HX.out) (by have := HL.out; omega)) ?_
    rintro e w2 ⟨u, rfl, hu, hx⟩
    have HX2 := hid (HX.out.trans hx)
    cases ha : allR l with
    | false =>
      have HQ2 : Hid ((1, s) = R) := hid (by have h := HQ.out; rw [if_neg (by simp [ha])] at h; exact h)
      rw [recsV_no ha] at hu ⊢
      dsimp only at hu ⊢
      obtain ⟨uo, uc, rfl⟩ := hu.open
      clear HQ ha hu hx
      go_wp2
      go_returns
      rw [← HQ2.out]
      exact ⟨rfl, Stp.same H.out HX2.out HB.out⟩
    | true =>
      have HQ2 : Hid (appP s n (opsB l) = R) := hid (by have h := HQ.out; rw [if_pos ha] at h; exact h)
      have hbl := opsB_len ha
      have HBL : Hid ((opsB l).length ≤ 1048576) := hid (by have := HL.out; omega)
      obtain ⟨hm1, hm2⟩ := allB_map ha
      have hlm : (l.map opRec).length ≤ 2000 := by rw [List.length_map]; exact HL.out
      rw [recsV_ok ha] at hu ⊢
      dsimp only at hu ⊢
      obtain ⟨uo, uc, rfl⟩ := hu.open
      obtain ⟨m, hm, hrow, hvs⟩ := hu.rcs
      have hc := each2_any (.slice uo (l.map opRec).length uc) m w2 hrow hvs (by rw [map_len hm]; omega) (HT.out.ext HX2.out)
      rw [hm, bytesV_ok hm2] at hc
      dsimp only at hc
      have HC := hid hc
      have HNE : Hid (∀ y ∈ (l.map opRec).map recB, y ≠ []) := hid (fun y hy => by
        obtain ⟨r, hr, rfl⟩ := List.mem_map.1 hy
        exact recB_ne (List.all_eq_true.1 hm2 r hr))
      have HLM : Hid (((l.map opRec).map recB).length ≤ 1048576) := hid (by rw [List.length_map]; omega)
      have HFL := hid hm1
      obtain ⟨ul, hul⟩ : ∃ k, (l.map opRec).length = k := ⟨_, rfl⟩
      rw [hul] at HC
      try rw [hul]
      clear HQ ha hu hx hbl hm1 hm2 hlm hm hrow hvs hc hul
      go_wp2_with fail
      refine HC.out.mono ?_
      rintro e w3 ⟨q, rfl, hq, hx⟩
      have HX3 := hid (HX2.out.trans hx)
      obtain ⟨qo, qc, rfl⟩ := hq.open
      have hj := bjoin_any _ _ w3 hq HNE.out (by rw [HFL.out]; exact HBL.out) HLM.out
      rw [HFL.out] at hj
      have HJ := hid hj
      obtain ⟨ql, hql⟩ : ∃ k, ((l.map opRec).map recB).length = k := ⟨_, rfl⟩
      rw [hql] at HJ
      try rw [hql]
      clear hx hq hj HC hql
      go_wp2_with fail
      refine HJ.out.mono ?_
      rintro e w4 ⟨⟨y, rfl, hy⟩, hx⟩
      have HX4 := hid (HX3.out.trans hx)
      have HY := hid hy
      obtain ⟨yo, yc, rfl, -⟩ := hy.open
      obtain ⟨yl, hyl⟩ : ∃ k, (opsB l).length = k := ⟨_, rfl⟩
      have hA := dappend_any n (opsB l) (.slice yo (opsB l).length yc) HN.out HY.out HBL.out (H.out.ext HX4.out) (Nat.le_trans HB.out HX4.out.size) (HW.out.app n (opsB l)).gd
      rw [HQ2.out] at hA
      rw [hyl] at hA
      try rw [hyl]
      have HA := hid hA
      clear hx hy hyl hA HJ
      go_wp2_with fail
      refine HA.out.mono ?_
      rintro e w5 ⟨rfl, hs⟩
      have HS := hid (Stp.ext0 H.out HX4.out HB.out hs)
      clear hs HA
      go_wp2
      go_returns
      exact ⟨rfl, HS.out⟩
theorem wf_rdB {s : PS} (hw : WF s) (n : Nm) : (rdB s n).length ≤ 1048576 := by
  unfold rdB
  split
  · simp
  · split
    · simp
    · rename_i f hf
      rw [List.getD_eq_getElem?_getD]
      cases hq : s.files[f]? with
      | none => simp
      | some q => simp only [Option.getD_some]; exact (hw.fl q (List.mem_of_getElem? hq)).2
/-- Load. -/
theorem rall_few : ∀ (b : List UInt8) (k : Nat), (rall k b).1.length ≤ b.length := by
  intro b
  induction b using fall_ind with
  | h b ih =>
    intro k
    by_cases hb : b = []
    · subst hb; simp [rall_nil]
    · by_cases he : (fread b).2.2 = 0
      · have hsz := fread_size b he
        by_cases hr : (recRead (fread b).1).2 = 0
        · rw [rall_ok hb he hr]
          have := ih hb he (k + (fread b).2.1)
          simp only [List.length_cons]
          rw [List.length_drop] at this
          have h2 := fread_le b he
          omega
        · rw [rall_form hb he hr]; simp
      · rw [rall_bad hb he]; simp
theorem opsOf_two (l : List Rc) : (opsOf l).2 = 0 ∨ (opsOf l).2 = 2 := by
  cases l with
  | nil => exact .inl rfl
  | cons r t =>
    simp only [opsOf]
    split
    · exact .inr rfl
    · split
      · exact .inr rfl
      · exact .inl rfl
set_option maxHeartbeats 1000000 in
theorem eload_any (gen : UInt64) (h : Dk B w p x s) (hw : WF s) (hp : Pw w) (ht : Tab w) :
    Calls Tryz.prog 16 #[pv p, uv gen] w fun e w' => (∃ u q, e = .returned (.tuple #[u, q, .int .i64 (evL s gen).2.2]) ∧ OpsO w' w.heap.size 68 u (evL s gen).1 ∧ OwV iv w' w.heap.size 3 q (evL s gen).2.1) ∧ Ext w w' := by
  have HP := hid hp
  have HT := hid ht
  have H := hid h
  obtain ⟨R, hR⟩ : ∃ R, evL s gen = R := ⟨_, rfl⟩
  rw [hR]
  unfold evL at hR
  have HR := hid hR
  have hc := eread_any gen h hp
  have hlen : (evR s gen).1.length ≤ 1048576 := by
    unfold evR
    split
    · simp
    · exact wf_rdB hw _
  obtain ⟨D, hD⟩ : ∃ D, evR s gen = D := ⟨_, rfl⟩
  rw [hD] at HR hc hlen
  obtain ⟨b, er⟩ := D
  dsimp only at HR hc hlen
  have HC := hid hc
  have HLE := hid hlen
  clear h hp ht hR hc hD hlen hw
  go_enter Tryz.func16, Tryz.ntmps16
  go_wp2_with fail
  refine HC.out.mono ?_
  rintro e w1 ⟨⟨v, rfl, ho⟩, hx⟩
  obtain ⟨vo, vc, rfl⟩ := row_shape ho
  have HX := hid hx
  have HO := hid ho
  clear hx ho HC
  by_cases he : er = 0
  · subst he
    have HR1 : Hid (loadB b = R) := hid (by have h := HR.out; rw [if_neg (by simp)] at h; exact h)
    clear HR
    have hc := all5_any (.slice vo b.length vc) b w1 HO.out.byt HLE.out (HT.out.ext HX.out)
    have HC := hid hc
    have hfew := rall_few b 0
    obtain ⟨A, hA⟩ : ∃ A, rall 0 b = A := ⟨_, rfl⟩
    have HR2 := HR1.out
    unfold loadB at HR2
    rw [hA] at HR2 hfew
    have HQ := hid HR2
    obtain ⟨rs, es, er2⟩ := A
    dsimp only at HQ hfew
    have HFEW : Hid (rs.length ≤ 1048576) := hid (by have := HLE.out; omega)
    have HAL := hid hA
    obtain ⟨bl, hbl⟩ : ∃ k, b.length = k := ⟨_, rfl⟩
    rw [hbl] at HC
    try rw [hbl]
    clear hc HR1 HR2 hA hbl hfew
    go_wp2_with fail
    refine HC.out.mono ?_
    rintro e w2 ⟨u, q, rfl, hu, hq, hx⟩
    rw [HAL.out] at hu hq ⊢
    dsimp only at hu hq ⊢
    have HX2 := hid (HX.out.trans hx)
    have HQ2 := hid (hq.mono HX.out.size)
    obtain ⟨uo, uc, rfl⟩ := hu.open
    obtain ⟨qo, qc, rfl⟩ := hq.shape
    obtain ⟨m, hm, hrow, hvs⟩ := hu.rcs
    have hc3 := each3_any (.slice uo rs.length uc) m w2 hrow hvs (by rw [map_len hm]; exact HFEW.out) (HT.out.ext HX2.out)
    rw [hm] at hc3
    have HC3 := hid hc3
    obtain ⟨Z, hZ⟩ : ∃ Z, opsOf rs = Z := ⟨_, rfl⟩
    rw [hZ] at HC3 HQ
    obtain ⟨ol, oe⟩ := Z
    dsimp only at HC3 HQ
    obtain ⟨rl, hrl⟩ : ∃ k, rs.length = k := ⟨_, rfl⟩
    rw [hrl] at HC3
    try rw [hrl]
    obtain ⟨el, hel⟩ : ∃ k, es.length = k := ⟨_, rfl⟩
    have HEL := hid hel
    have HQ2 : Hid (w2.ownsRow w.heap.size 3 1 (.slice qo el qc) el (es.map iv)) := hid (by have h := HQ2.out; unfold OwV at h; rw [hel] at h; exact h)
    try rw [hel]
    have HZ := hid hZ
    clear hx hq hu hm hrow hvs hc3 hrl hel hZ HC
    go_wp2_with fail
    refine HC3.out.mono ?_
    rintro e w3 ⟨o, rfl, ho, hx⟩
    have HX3 := hid (HX2.out.trans hx)
    obtain ⟨oo, oc, rfl⟩ := OpsO.open ho
    have HO3 := hid (owns_mono ho HX2.out.size)
    have HQ3 := hid (hx.owns HQ2.out)
    obtain ⟨on, hon⟩ : ∃ k, ol.length = k := ⟨_, rfl⟩
    have HON := hid hon
    rw [hon] at HO3
    try rw [hon]
    clear hx ho HC3
    by_cases h1 : oe = 0
    · subst h1
      by_cases h2 : er2 = 0
      · subst h2
        have HF : Hid ((ol, es, 0) = R) := hid (by have h := HQ.out; rw [if_neg (by simp), if_neg (by simp)] at h; exact h)
        clear HQ
        go_wp2
        go_returns
        rw [← HF.out]
        exact ⟨⟨_, _, rfl, by show World.ownsRow _ _ _ _ _ _ _; rw [HON.out]; exact HO3.out, by show World.ownsRow _ _ _ _ _ _ _; rw [HEL.out]; exact HQ3.out⟩, HX3.out⟩
      by_cases h3 : er2 = 3
      · subst h3
        have HF : Hid ((ol, es, 0) = R) := hid (by have h := HQ.out; rw [if_neg (by simp), if_neg (by simp)] at h; exact h)
        clear HQ h2
        go_wp2
        go_returns
        rw [← HF.out]
        exact ⟨⟨_, _, rfl, by show World.ownsRow _ _ _ _ _ _ _; rw [HON.out]; exact HO3.out, by show World.ownsRow _ _ _ _ _ _ _; rw [HEL.out]; exact HQ3.out⟩, HX3.out⟩
      · have HF : Hid (([], [], er2) = R) := hid (by have h := HQ.out; rw [if_neg (by simp), if_pos ⟨h2, h3⟩] at h; exact h)
        have hd2 : (er2 != 0) = true := by simpa using h2
        have hd3 : (er2 != 3) = true := by simpa using h3
        clear HQ h2 h3
        go_wp2
        go_returns
        rw [← HF.out]
        exact ⟨⟨_, _, rfl, OpsO.nil _ _ _, World.ownsRow_nil _ _ _ _⟩, HX3.out⟩
    · have h2 : oe = 2 := by
        rcases opsOf_two rs with h | h
        · rw [HZ.out] at h; exact absurd h h1
        · rw [HZ.out] at h; exact h
      subst h2
      have HF : Hid (([], [], 2) = R) := hid (by have h := HQ.out; rw [if_pos (by decide)] at h; exact h)
      clear HQ h1
      go_wp2
      go_returns
      rw [← HF.out]
      exact ⟨⟨_, _, rfl, OpsO.nil _ _ _, World.ownsRow_nil _ _ _ _⟩, HX3.out⟩
  · have he1 : ((er : Int) != 0) = true := by simp; omega
    have HQ : Hid (([], [], ((er : Nat) : Int)) = R) := hid (by rw [← HR.out, if_pos he])
    clear HR he
    go_wp2
    go_returns
    rw [← HQ.out]
    exact ⟨⟨_, _, rfl, OpsO.nil _ _ _, World.ownsRow_nil _ _ _ _⟩, HX.out⟩
end
end Go.Proofs.YtinancnlangkjaaGreatDoor

set_option linter.unusedSimpArgs false
set_option linter.unusedVariables false
set_option maxRecDepth 100000
namespace Go.Proofs.YtinancnlangkjaaGreatDoor
open Go Go.RowKit Go.Tum Go.ChangeMaps Go.Tum.Crc Go.Tum.Vint Go.Tum.Opm Go.Nam

theorem opsO_lit0 (w : World) (B T : Nat) (hB : B ≤ w.heap.size) : OpsO (w.alloc (.cells #[] T)) B T (.slice (some ⟨w.heap.size, 0, none⟩) 0 0) [] := by
  have h := World.ownsRow_lit (base := B) (e := T) (size := 8) w #[] 0 hB (by simp [maxLen]) (by simp)
  exact h
set_option maxHeartbeats 2000000 in
theorem own17_any (v : Value) (l : List Oq) (w : World) (hv : Ops w v l) (hl : l.length * 72 ≤ 140737488355328) :
    Calls Tryz.prog 13 #[v] w fun e w' => (∃ u, e = .returned u ∧ OpsO w' w.heap.size 98 u l) ∧ Ext w w' := by
  obtain ⟨ao, cap, rfl, hle, hmx, hnn, hcell⟩ := hv.open
  have HC := hid hcell
  have HNN := hid hnn
  have HL := hid hl
  have H0 := hid (opsO_lit0 w w.heap.size 98 (Nat.le_refl _))
  have HE0 := hid (Ext.alloc w (.cells #[] 98))
  clear hv hnn hcell
  go_enter Tryz.func13, Tryz.ntmps13
  go_wp2_with fail
  generalize w.alloc (.cells #[] 98) = W0 at *
  go_loopw [3, 9] (fun o i wr => ∃ (k : Nat) (bo : Option Addr) (bc : Nat), k ≤ l.length ∧ i = .int .i64 (k : Int) ∧ o = .slice bo k bc ∧ Hid (OpsO wr w.heap.size 98 (.slice bo k bc) (l.take k)) ∧ Hid (Ext w wr)) (fun _ i _ => l.length - (intOf i).toNat)
  case atStart => exact ⟨0, _, 0, Nat.zero_le _, rfl, rfl, H0, HE0⟩
  case round =>
    clear H0 HE0
    obtain ⟨k, bo, bc, hk, rfl, rfl, HO, HE⟩ := hrel
    by_cases hlt : k < l.length
    · have hkj : decide ((k : Int) < (l.length : Int)) = true := by simp; omega
      obtain ⟨a, rfl⟩ := HNN.out (by omega)
      have hc := fun j u h => HE.out.cell (HC.out a rfl k hlt j u h)
      have htk := List.take_succ_eq_append_getElem hlt
      obtain ⟨o, ho⟩ : ∃ o, l[k] = o := ⟨_, rfl⟩
      rw [ho] at hc htk
      obtain ⟨dd, lane, id, n, name, seg, at', size⟩ := o
      have k0 := cell_first (hc 0 _ rfl)
      have k1 := cell_next (hc 1 _ rfl) (by decide)
      have k2 := cell_next (hc 2 _ rfl) (by decide)
      have k3 := cell_next (hc 3 _ rfl) (by decide)
      have k4 := cell_next (hc 4 _ rfl) (by decide)
      have k5 := cell_next (hc 5 _ rfl) (by decide)
      have k6 := cell_next (hc 6 _ rfl) (by decide)
      have k7 := cell_next (hc 7 _ rfl) (by decide)
      have HTK := hid htk
      have HLT := hid hlt
      obtain ⟨W1, hW1⟩ : ∃ W, wr.alloc (.cells #[.int .i64 dd, .int .i64 lane, uv id, uv n, .string (str name), uv seg, uv at', .int .i64 size] 68 (0, 0)) = W := ⟨_, rfl⟩
      have hE1 := Ext.alloc wr (.cells #[.int .i64 dd, .int .i64 lane, uv id, uv n, .string (str name), uv seg, uv at', .int .i64 size] 68 (0, 0))
      have hb1 := heap_alloc_new wr (.cells #[.int .i64 dd, .int .i64 lane, uv id, uv n, .string (str name), uv seg, uv at', .int .i64 size] 68 (0, 0))
      rw [hW1] at hE1 hb1
      obtain ⟨⟨m0, m1, m2, m3, m4, m5, m6, m7⟩, mf⟩ := blk8 hb1
      have hE2 := Ext.alloc W1 (.cells #[.int .i64 dd, .int .i64 lane, uv id, uv n, .string (str name), uv seg, uv at', .int .i64 size] 98 (0, 0))
      have HBLK := hid (heap_alloc_new W1 (.cells #[.int .i64 dd, .int .i64 lane, uv id, uv n, .string (str name), uv seg, uv at', .int .i64 size] 98 (0, 0)))
      have HX3 := hid (HE.out.trans (hE1.trans hE2))
      have HO3 := hid (OpsO.ext HO.out (hE1.trans hE2))
      have hN : k + 1 = (l.take k).length + 1 := by rw [List.length_take]; have := HLT.out; omega
      have hNb : (k + 1) * 72 ≤ 140737488355328 := by have := HLT.out; have := HL.out; omega
      have HN := hid hN
      have HNB := hid hNb
      have hO3 : OpsO (W1.alloc (.cells #[.int .i64 dd, .int .i64 lane, uv id, uv n, .string (str name), uv seg, uv at', .int .i64 size] 98 (0, 0))) w.heap.size 98 (.slice bo k bc) (l.take k) := HO3.out
      clear hc htk ho hE1 hb1 hlt hE2 hN hNb hO3
      go_wp2_with (at_builtin; refine wpList_append_op rfl (.tmp 13) (.tmp 27) 42 rfl w.heap.size 98 Tryz.underlying42 infoROp rfl HO3.out (y := ⟨dd, lane, id, n, name, seg, at', size⟩) rfl HBLK.out (k + 1) HN.out HNB.out HX3.out.size ?_; intro ao2 cap2 w3 hown2 hg2 hb2; obtain ⟨HO4, HX4⟩ := And.intro (hid hown2) (hid (HX3.out.below hb2)); clear hown2 hg2 hb2)
      have hwk : IntKind.i64.wrap ((k : Int) + 1) = ((k + 1 : Nat) : Int) := i64e _ (by omega) (by have := HLT.out; have := HL.out; omega)
      go_roundw
      case rel =>
        refine ⟨k + 1, ao2, cap2, HLT.out, by first | rfl | go_num, rfl, hid ?_, HX4⟩
        rw [HTK.out]
        exact HO4.out
      case measure => have := HLT.out; simp [intOf]; omega
    · have hkf : decide ((k : Int) < (l.length : Int)) = false := by simp; omega
      have hkf2 : (k < l.length) = False := by simp; omega
      have HT : Hid (l.take k = l) := hid (take_all hlt)
      have HKL : Hid (k = l.length) := hid (by omega)
      clear hlt
      go_wp2
      go_returns
      have hO := HO.out
      rw [HT.out] at hO
      exact ⟨⟨_, rfl, hO⟩, HE.out⟩
/-! ### Large -/
def LargeO (l : List Oq) (w : World) (e : Ending) (w' : World) : Prop := (∃ r, e = .returned (.bool r) ∧ (r = false → l.length ≤ 20 ∧ ∀ o ∈ l, o.name.length ≤ 300)) ∧ Ext w w'
theorem LargeO.yes {l : List Oq} {w w' : World} (h : Ext w w') : LargeO l w (.returned (.bool true)) w' := ⟨⟨true, rfl, fun h => by cases h⟩, h⟩
set_option maxHeartbeats 1000000 in
theorem rlarge12_any (v : Value) (l : List Oq) (w : World) (h : Ops w v l) : Calls Tryz.prog 34 #[v, .int .i64 20] w fun e w' => LargeO l w e w' := by
  obtain ⟨ao, cap, rfl, hle, hm, hnn, hcell⟩ := h.open
  have HC := hid hcell
  have HNN := hid hnn
  clear h hcell hnn
  by_cases h1 : 20 < l.length
  · have hd : decide ((20 : Int) < l.length) = true := by simp; omega
    clear h1
    go_enter Tryz.func34, Tryz.ntmps34
    go_wp2
    go_returns
    exact LargeO.yes (Ext.refl _)
  have hd : decide ((20 : Int) < l.length) = false := by simp; omega
  go_enter Tryz.func34, Tryz.ntmps34
  go_wp2
  clear hd
  go_loopw [5] (fun i wr => ∃ k : Nat, k ≤ l.length ∧ i = .int .i64 k ∧ Hid (∀ j (h : j < l.length), j < k → l[j].name.length ≤ 300) ∧ wr = w) (fun i _ => l.length - (intOf i).toNat)
  case atStart => exact ⟨0, by omega, rfl, hid (fun j h h2 => absurd h2 (by omega)), rfl⟩
  case round =>
    obtain ⟨k, hk, rfl, HS, rfl⟩ := hrel
    by_cases hlt : k < l.length
    · obtain ⟨a0, rfl⟩ := HNN.out (by omega)
      have c0 := cell_next (HC.out a0 rfl k hlt 4 _ rfl) (by decide)
      obtain ⟨s, hs⟩ : ∃ s, l[k].name = s := ⟨_, rfl⟩
      have HSQ := hid hs
      rw [hs] at c0
      clear hs
      have hi1 : decide ((k : Int) < l.length) = true := by simp; omega
      have hi2 : (k : Int) < l.length := by omega
      by_cases hb : 300 < s.length
      · have hd : decide ((300 : Int) < ((str s).size : Int)) = true := by rw [str_size]; simp; omega
        go_wp2
        go_returns
        exact LargeO.yes (Ext.refl _)
      · have hd : decide ((300 : Int) < ((str s).size : Int)) = false := by rw [str_size]; simp; omega
        have HB := hid hb
        clear hb
        go_wp2
        go_roundw
        case rel =>
          refine ⟨k + 1, by omega, by go_num, hid (fun j h h2 => ?_), by first | rfl | trivial⟩
          rcases Nat.lt_or_eq_of_le (Nat.le_of_lt_succ h2) with h3 | h3
          · exact HS.out j h h3
          · subst h3; rw [HSQ.out]; have := HB.out; omega
        case measure => simp [intOf]; omega
    · have hkf : decide ((k : Int) < l.length) = false := by simp; omega
      go_wp2
      go_returns
      refine ⟨⟨false, rfl, fun _ => ⟨by omega, fun q hq => ?_⟩⟩, Ext.refl _⟩
      obtain ⟨j, hj, rfl⟩ := List.mem_iff_getElem.1 hq
      exact HS.out j hj (by omega)
/-! ### same -/
set_option maxHeartbeats 2000000 in
theorem same17_any (u v : Value) (l : List Oq) (w : World) (ha : Ops w u l) (hb : Ops w v l) : Calls Tryz.prog 18 #[u, v] w fun e w' => e = .returned (.bool true) ∧ Ext w w' := by
  obtain ⟨ao, cap, rfl, hle, hm, hnn, hcell⟩ := ha.open
  obtain ⟨bo, cbp, rfl, hle2, hm2, hnn2, hcell2⟩ := hb.open
  have HC := hid hcell
  have HNN := hid hnn
  have HC2 := hid hcell2
  have HNN2 := hid hnn2
  have hne : ((l.length : Int) != (l.length : Int)) = false := by simp
  clear ha hb hcell hnn hcell2 hnn2
  go_enter Tryz.func18, Tryz.ntmps18
  go_wp2
  clear hne
  go_loopw [13] (fun i wr => ∃ k : Nat, k ≤ l.length ∧ i = .int .i64 k ∧ Hid (Ext w wr)) (fun i _ => l.length - (intOf i).toNat)
  case atStart => exact ⟨0, by omega, rfl, hid (Ext.refl _)⟩
  case round =>
    obtain ⟨k, hk, rfl, HE⟩ := hrel
    by_cases hlt : k < l.length
    · obtain ⟨a, rfl⟩ := HNN.out (by omega)
      obtain ⟨b, rfl⟩ := HNN2.out (by omega)
      have hi1 : decide ((k : Int) < l.length) = true := by simp; omega
      have hi2 : (k : Int) < l.length := by omega
      have hc := fun j u h => HE.out.cell (HC.out a rfl k hlt j u h)
      have hc2 := fun j u h => HE.out.cell (HC2.out b rfl k hlt j u h)
      obtain ⟨o, ho⟩ : ∃ o, l[k] = o := ⟨_, rfl⟩
      rw [ho] at hc hc2
      obtain ⟨dd, lane, id, n, name, seg, at', size⟩ := o
      have k0 := cell_first (hc 0 _ rfl)
      have k1 := cell_next (hc 1 _ rfl) (by decide)
      have k2 := cell_next (hc 2 _ rfl) (by decide)
      have k3 := cell_next (hc 3 _ rfl) (by decide)
      have k4 := cell_next (hc 4 _ rfl) (by decide)
      have k5 := cell_next (hc 5 _ rfl) (by decide)
      have k6 := cell_next (hc 6 _ rfl) (by decide)
      have k7 := cell_next (hc 7 _ rfl) (by decide)
      have l0 := cell_first (hc2 0 _ rfl)
      have l1 := cell_next (hc2 1 _ rfl) (by decide)
      have l2 := cell_next (hc2 2 _ rfl) (by decide)
      have l3 := cell_next (hc2 3 _ rfl) (by decide)
      have l4 := cell_next (hc2 4 _ rfl) (by decide)
      have l5 := cell_next (hc2 5 _ rfl) (by decide)
      have l6 := cell_next (hc2 6 _ rfl) (by decide)
      have l7 := cell_next (hc2 7 _ rfl) (by decide)
      have HLT := hid hlt
      clear hc hc2 ho hlt
      go_wp2_with fail
      go_quiet (fail)
      go_wp2
      go_roundw
      case rel => exact ⟨k + 1, HLT.out, by go_num, hid (HE.out.trans (Ext.drewN _ _))⟩
      case measure => have := HLT.out; simp [intOf]; omega
    · have hkf : decide ((k : Int) < l.length) = false := by simp; omega
      go_wp2
      go_returns
      exact ⟨rfl, HE.out⟩
end Go.Proofs.YtinancnlangkjaaGreatDoor

set_option linter.unusedSimpArgs false
set_option linter.unusedVariables false
set_option maxRecDepth 100000
namespace Go.Proofs.YtinancnlangkjaaGreatDoor
open Go Go.RowKit Go.Tum Go.ChangeMaps Go.Tum.Crc Go.Tum.Vint Go.Tum.Opm Go.Nam

section
variable {R : Nat} {gen : UInt64} {c : List UInt8} {m : Nat}
theorem bU_B (h : gen.toNat < 10000000000) : evB (newP R) gen = (0, eU R (evN gen.toNat) [] 0) := by
  unfold evB
  rw [if_neg (by omega), e_begin (evN_ok h), if_neg (by simp)]
  exact eU_syn _ _ _ _
theorem bU_A (h : gen.toNat < 10000000000) {l : List Oq} (hl : allR l = true) (hr : c.length + (opsB l).length ≤ R) : evA (eU R (evN gen.toNat) c m) gen l = (0, eU R (evN gen.toNat) (c ++ opsB l) m) := by
  unfold evA
  rw [if_neg (by omega), if_pos hl, eU_app _ _ _ _ _ hr]
theorem bV_A (h : gen.toNat < 10000000000) {l : List Oq} (hl : allR l = true) (hr : c.length + (opsB l).length ≤ R) : evA (eV R (evN gen.toNat) c m) gen l = (0, eV R (evN gen.toNat) (c ++ opsB l) m) := by
  unfold evA
  rw [if_neg (by omega), if_pos hl, eV_app _ _ _ _ _ hr]
theorem b_no {s : PS} {l : List Oq} (hl : allR l = false) : evA s gen l = (1, s) := by
  unfold evA
  split
  · rfl
  · rw [if_neg (by simp [hl])]
theorem evR_in {s : PS} (h : gen.toNat < 10000000000) : evR s gen = (rdB s (evN gen.toNat), rdE s (evN gen.toNat)) := by
  unfold evR
  rw [if_neg (by omega)]
theorem bU_L (h : gen.toNat < 10000000000) : evL (eU R (evN gen.toNat) c m) gen = loadB c := by
  unfold evL
  rw [evR_in h, (eU_rd _ _ _ _).1, (eU_rd _ _ _ _).2, if_neg (by simp)]
theorem bV_L (h : gen.toNat < 10000000000) : evL (eV R (evN gen.toNat) c m) gen = loadB c := by
  unfold evL
  rw [evR_in h, (eV_rd _ _ _ _).1, (eV_rd _ _ _ _).2, if_neg (by simp)]
theorem bU_S (h : gen.toNat < 10000000000) : evS (eU R (evN gen.toNat) c m) gen = (0, eU R (evN gen.toNat) c c.length) := by
  unfold evS
  rw [if_neg (by omega), eU_syn]
theorem bV_S (h : gen.toNat < 10000000000) : evS (eV R (evN gen.toNat) c m) gen = (0, eV R (evN gen.toNat) c c.length) := by
  unfold evS
  rw [if_neg (by omega), eV_syn]
theorem bU_C (h : gen.toNat < 10000000000) {k : Int} (hk : (c.length : Int) ≤ k) : evC (eU R (evN gen.toNat) c m) gen k = (0, eU R (evN gen.toNat) c m) := by
  unfold evC
  rw [evR_in h, (eU_rd _ _ _ _).1, (eU_rd _ _ _ _).2, if_neg (by simp)]
  exact if_pos hk
theorem bV_C (h : gen.toNat < 10000000000) {k : Nat} (hk : k ≤ c.length) (hm : m ≤ c.length) : ∃ m', m' ≤ k ∧ (k = c.length → m' = m) ∧ (k < c.length → m' = min m k) ∧ evC (eV R (evN gen.toNat) c m) gen (k : Int) = (0, eV R (evN gen.toNat) (c.take k) m') := by
  unfold evC
  rw [evR_in h, (eV_rd _ _ _ _).1, (eV_rd _ _ _ _).2, if_neg (by simp)]
  rcases Nat.lt_or_ge k c.length with h1 | h1
  · refine ⟨min m k, by omega, fun e => by omega, fun _ => rfl, ?_⟩
    exact (if_neg (by dsimp only; omega)).trans (eV_cut _ _ _ _ _ hk)
  · have : k = c.length := by omega
    subst this
    rw [List.take_length]
    exact ⟨m, hm, fun _ => rfl, fun e => by omega, if_pos (Int.le_refl _)⟩
theorem b_far {s : PS} (h : 10000000000 ≤ gen.toNat) : evB s gen = (1, s) := by
  unfold evB
  rw [if_pos h]
end
abbrev tick5 : Oq := ⟨7, 0, 0, 5, [], 0, 0, 0⟩
theorem tick5_len : (opsB [tick5]).length = 12 := by
  show (fbytes (recFr (opRec tick5)) ++ []).length = 12
  rw [List.append_nil, fbytes_length]
  rfl
theorem tick5_load : loadB (opsB [tick5]) = ([tick5], [12], 0) := by
  rw [load_ops (by decide)]
  show ([tick5], [0 + (opB tick5).length], 0) = _
  have := tick5_len
  simp only [opsB, List.append_nil] at this
  rw [this]
theorem evL_two {R : Nat} {c : List UInt8} {m : Nat} : evL (eU R (evN 1) c m) 2 = ([], [], 5) := by
  have hd : look (eU R (evN 1) c m).dir (evN 2) = none := by
    rw [eU_dir, evN1, evN2]
    rfl
  have h1 : rdE (eU R (evN 1) c m) (evN 2) = 5 := by
    unfold rdE
    rw [hd]; rfl
  unfold evL
  rw [evR_in (by decide), show (2 : UInt64).toNat = 2 from rfl, h1, if_pos (show (5 : Nat) ≠ 0 by decide)]
  rfl
theorem do_eq {P : Program} {f : Nat} {a : Array Value} {B : Nat} {w : World} {p : Nat} {x : DX} {r : Nat × PS} {n : Nat} {s' : PS} (h : Calls P f a w fun e w' => DoR B w p x r e w') (hr : r = (n, s')) (z : Int) (hz : (n : Int) = z) :
    Calls P f a w fun e w' => e = .returned (.int .i64 z) ∧ Stp B w p x s' w' := by
  subst hr hz; exact h
theorem opsO_cells {w : World} {B T n c : Nat} {ao : Option Addr} {l : List Oq} (h : OpsO w B T (.slice ao n c) l) (hl : 0 < l.length) : ∃ g, ao = some ⟨g, 0, none⟩ ∧ ∀ i (hi : i < l.length) j u, (ocells l[i])[j]? = some u → w.cell? ⟨g, i * 8 + j, none⟩ = some u := by
  obtain ⟨_, _, e, _, _, _, hc⟩ := (OpsO.ops h).open
  rcases h.2 with ⟨e, e2⟩ | ⟨g, cap, cur, e, _⟩
  · omega
  · cases e
    refine ⟨g, rfl, fun i hi j u hu => ?_⟩
    have := (OpsO.ops h).opens.2.2.2.2 _ rfl i hi j u hu
    rwa [plain_add] at this
set_option maxHeartbeats 4000000 in
theorem awake17_any (w : World) (ht : Tab w) (hp : Pw w) : Calls Tryz.prog 5 #[] w fun e w' => e = .returned (.bool true) ∧ Ext w w' := by
  have HT := hid ht
  have HP := hid hp
  have HC := hid (dnew_any w w.heap.size (Nat.le_refl _) 200)
  clear ht hp
  go_enter Tryz.func5, Tryz.ntmps5
  go_wp2_with fail
  refine HC.out.mono ?_
  rintro e w1 ⟨-, h⟩
  obtain ⟨p, x, rfl, d1, x1, q1⟩ := h (by decide) (by decide)
  have D1 := hid d1
  have HE1 := hid x1
  have HW1 : Hid (WF (newP (Int.toNat 200))) := hid (wf_new (by decide))
  clear h d1 x1 q1 HC
  have HC := hid (do_eq (ebegin_any 1 D1.out HE1.out.size HW1.out (by simp [newP]) (HP.out.ext15 HE1.out)) (bU_B (by decide)) 0 rfl)
  have hw := wf_evB HW1.out 1
  rw [bU_B (by decide)] at hw
  have HW2 := hid hw
  clear hw
  go_wp2_with fail
  refine HC.out.mono ?_
  rintro e w2 ⟨rfl, hs⟩
  obtain ⟨x2, d2, bl, -, -, -⟩ := hs.keep
  have D2 := hid d2
  have HE2 := hid (HE1.out.below bl)
  clear hs d2 bl HC D1 HE1 HW1
  have hblk := heap_alloc_new w2 (.cells #[.int .i64 7, .int .i64 0, .int .u64 0, .int .u64 5, .string ⟨#[]⟩, .int .u64 0, .int .u64 0, .int .i64 0] 68 (0, 0))
  have hE3 := Ext.alloc w2 (.cells #[.int .i64 7, .int .i64 0, .int .u64 0, .int .u64 5, .string ⟨#[]⟩, .int .u64 0, .int .u64 0, .int .i64 0] 68 (0, 0))
  obtain ⟨W3, hW3⟩ : ∃ W, w2.alloc (.cells #[.int .i64 7, .int .i64 0, .int .u64 0, .int .u64 5, .string ⟨#[]⟩, .int .u64 0, .int .u64 0, .int .i64 0] 68 (0, 0)) = W := ⟨_, rfl⟩
  rw [hW3] at hblk hE3
  have hops : Ops W3 (.slice (some ⟨w2.heap.size, 0, none⟩) 1 1) [tick5] := ⟨fun _ _ => rfl, blk_sl (cs := ocells tick5) hblk rfl⟩
  have HE3 := hid (HE2.out.trans hE3)
  have D3 := hid (D2.out.ext hE3)
  have h12 := tick5_len
  have HC := hid (do_eq (eappend_any 1 [tick5] _ D3.out HE3.out.size HW2.out hops (by simp) (HP.out.ext15 HE3.out) (HT.out.ext HE3.out)) (bU_A (by decide) (by decide) (by simp only [List.length_nil]; rw [h12]; decide)) 0 rfl)
  have hw := wf_evA HW2.out 1 [tick5]
  rw [bU_A (by decide) (by decide) (by simp only [List.length_nil]; rw [h12]; decide)] at hw
  have HW3 := hid hw
  clear hw hops hblk hE3 h12 HE2 D2 HW2
  go_wp2_with fail
  try rw [hW3]
  clear hW3
  refine HC.out.mono ?_
  rintro e w4 ⟨rfl, hs⟩
  obtain ⟨x4, d4, bl, -, -, -⟩ := hs.keep
  have D4 := hid d4
  have HE4 := hid (HE3.out.below bl)
  clear hs d4 bl HC D3 HE3
  have hblk := heap_alloc_new w4 (.cells #[.int .i64 0, .int .i64 0, .int .u64 0, .int .u64 0, .string ⟨#[]⟩, .int .u64 0, .int .u64 0, .int .i64 0] 68 (0, 0))
  have hE5 := Ext.alloc w4 (.cells #[.int .i64 0, .int .i64 0, .int .u64 0, .int .u64 0, .string ⟨#[]⟩, .int .u64 0, .int .u64 0, .int .i64 0] 68 (0, 0))
  obtain ⟨W5, hW5⟩ : ∃ W, w4.alloc (.cells #[.int .i64 0, .int .i64 0, .int .u64 0, .int .u64 0, .string ⟨#[]⟩, .int .u64 0, .int .u64 0, .int .i64 0] 68 (0, 0)) = W := ⟨_, rfl⟩
  rw [hW5] at hblk hE5
  have hops : Ops W5 (.slice (some ⟨w4.heap.size, 0, none⟩) 1 1) [o0] := ⟨fun _ _ => rfl, blk_sl (cs := ocells o0) hblk rfl⟩
  have HE5 := hid (HE4.out.trans hE5)
  have D5 := hid (D4.out.ext hE5)
  have HC := hid (do_eq (eappend_any 1 [o0] _ D5.out HE5.out.size HW3.out hops (by simp) (HP.out.ext15 HE5.out) (HT.out.ext HE5.out)) (b_no (by decide)) 1 rfl)
  clear hops hblk hE5 HE4 D4
  go_wp2_with fail
  try rw [hW5]
  clear hW5
  refine HC.out.mono ?_
  rintro e w6 ⟨rfl, hs⟩
  obtain ⟨x6, d6, bl, -, -, -⟩ := hs.keep
  have D6 := hid d6
  have HE6 := hid (HE5.out.below bl)
  clear hs d6 bl HC D5 HE5
  have hc := eload_any 1 D6.out HW3.out (HP.out.ext15 HE6.out) (HT.out.ext HE6.out)
  rw [bU_L (by decide), List.nil_append, tick5_load] at hc
  dsimp only at hc
  have HC := hid hc
  clear hc
  go_wp2_with fail
  refine HC.out.mono ?_
  rintro e w7 ⟨⟨u, q, rfl, hu, hq⟩, hx⟩
  obtain ⟨uo, uc, rfl⟩ := OpsO.open hu
  obtain ⟨qo, qc, rfl⟩ := hq.shape
  have HU := hid hu
  have HQ := hid hq
  have HE7 := hid (HE6.out.trans hx)
  have D7 := hid (D6.out.ext hx)
  clear hu hq hx HC HE6 D6
  have hc := eload_any 2 D7.out HW3.out (HP.out.ext15 HE7.out) (HT.out.ext HE7.out)
  rw [show (1 : UInt64).toNat = 1 from rfl, evL_two] at hc
  dsimp only at hc
  have HC := hid hc
  clear hc
  go_wp2_with fail
  refine HC.out.mono ?_
  rintro e w8 ⟨⟨u2, q2, rfl, hu, hq⟩, hx⟩
  obtain ⟨uo2, uc2, rfl⟩ := OpsO.open hu
  obtain ⟨qo2, qc2, rfl⟩ := hq.shape
  have HU8 := hid (OpsO.ext HU.out hx)
  have HQ8 := hid (HQ.out.ext hx)
  have HE8 := hid (HE7.out.trans hx)
  have D8 := hid (D7.out.ext hx)
  clear hu hq hx HC HE7 D7 HU HQ
  obtain ⟨g, rfl, hcells⟩ := opsO_cells HU8.out (by simp)
  have c0 : w8.cell? ⟨g, 0, none⟩ = some (.int .i64 7) := hcells 0 (by simp) 0 _ rfl
  have c1 : w8.cell? ⟨g, 1, none⟩ = some (.int .i64 0) := hcells 0 (by simp) 1 _ rfl
  have c2 : w8.cell? ⟨g, 2, none⟩ = some (.int .u64 0) := hcells 0 (by simp) 2 _ rfl
  have c3 : w8.cell? ⟨g, 3, none⟩ = some (.int .u64 5) := hcells 0 (by simp) 3 _ rfl
  have c4 : w8.cell? ⟨g, 4, none⟩ = some (.string ⟨#[]⟩) := hcells 0 (by simp) 4 _ rfl
  have c5 : w8.cell? ⟨g, 5, none⟩ = some (.int .u64 0) := hcells 0 (by simp) 5 _ rfl
  have c6 : w8.cell? ⟨g, 6, none⟩ = some (.int .u64 0) := hcells 0 (by simp) 6 _ rfl
  have c7 : w8.cell? ⟨g, 7, none⟩ = some (.int .i64 0) := hcells 0 (by simp) 7 _ rfl
  have hE9 := Ext.alloc w8 (.cells #[.int .i64 12] 3 (0, 0))
  have hv9 := Vec.one (f := iv) w8 3 (.int .i64 12) 12 rfl
  obtain ⟨W9, hW9⟩ : ∃ W, w8.alloc (.cells #[.int .i64 12] 3 (0, 0)) = W := ⟨_, rfl⟩
  rw [hW9] at hE9 hv9
  have hc := ints_any _ _ [12] [12] W9 (HQ8.out.vec.ext hE9) hv9
  rw [show (([12] : List Nat) == [12]) = true from rfl] at hc
  have HC := hid hc
  have HE9 := hid (HE8.out.trans hE9)
  have D9 := hid (D8.out.ext hE9)
  clear hcells hE9 hv9 hc
  go_wp2_with fail
  try rw [hW9]
  clear hW9 c0 c1 c2 c3 c4 c5 c6 c7
  refine HC.out.mono ?_
  rintro e w10 ⟨rfl, hx⟩
  have HE10 := hid (HE9.out.trans hx)
  have D10 := hid (D9.out.ext hx)
  clear hx HC HE9 D9 HE8 D8 HU8 HQ8
  have HC := hid (do_eq (esync_any 1 D10.out HE10.out.size HW3.out (HP.out.ext15 HE10.out)) (bU_S (by decide)) 0 rfl)
  have hw := wf_evS HW3.out 1
  rw [bU_S (by decide)] at hw
  have HW4 := hid hw
  clear hw
  go_wp2_with fail
  refine HC.out.mono ?_
  rintro e w11 ⟨rfl, hs⟩
  obtain ⟨x11, d11, bl, -, -, -⟩ := hs.keep
  have D11 := hid d11
  have HE11 := hid (HE10.out.below bl)
  clear hs d11 bl HC D10 HE10
  have h12 := tick5_len
  have HC := hid (do_eq (ecut_any 1 99 D11.out HE11.out.size HW4.out (HP.out.ext15 HE11.out)) (bU_C (by decide) (by rw [List.nil_append, h12]; decide)) 0 rfl)
  clear h12
  go_wp2_with fail
  refine HC.out.mono ?_
  rintro e w12 ⟨rfl, hs⟩
  obtain ⟨x12, d12, bl, -, -, -⟩ := hs.keep
  have D12 := hid d12
  have HE12 := hid (HE11.out.below bl)
  clear hs d12 bl HC D11 HE11
  have HC := hid (do_eq (ebegin_any 9223372036854775808 D12.out HE12.out.size HW4.out (by simp [eU]) (HP.out.ext15 HE12.out)) (b_far (by decide)) 1 rfl)
  go_wp2_with fail
  refine HC.out.mono ?_
  rintro e w13 ⟨rfl, hs⟩
  obtain ⟨x13, d13, bl, -, -, -⟩ := hs.keep
  have HE13 := hid (HE12.out.below bl)
  clear hs d13 bl HC D12 HE12
  go_wp2
  go_returns
  exact ⟨rfl, HE13.out⟩
end Go.Proofs.YtinancnlangkjaaGreatDoor

set_option linter.unusedSimpArgs false
set_option linter.unusedVariables false
set_option maxRecDepth 100000
namespace Go.Proofs.YtinancnlangkjaaGreatDoor
open Go Go.RowKit Go.Tum Go.ChangeMaps Go.Tum.Crc Go.Tum.Vint Go.Tum.Opm Go.Nam

theorem Dk.lt15 {B : Nat} {w : World} {p : Nat} {x : DX} {s : PS} (h : Dk B w p x s) : ∀ q ∈ x.blk p, q < w.heap.size := by
  intro q hq
  have hb : ∀ {b e n s : Nat} {v : Value} {xs : List Value}, w.ownsRow b e s v n xs → ∀ q ∈ oB v, q < w.heap.size := by
    intro b e n s v xs ho q hq
    rcases ho.2 with ⟨hv, -⟩ | ⟨g, cap, cur, hv, hb, hg, -⟩
    · rw [hv] at hq; simp [oB, Value.ownBlock] at hq
    · rw [hv] at hq; simp [oB, Value.ownBlock] at hq; subst hq; exact (Array.getElem?_eq_some_iff.1 hg).1
  unfold DX.blk at hq
  simp only [List.mem_cons, List.mem_append, List.mem_flatMap, List.mem_map] at hq
  rcases hq with rfl | rfl | rfl | (hq | ⟨z, hz, rfl⟩) | ⟨z, hz, hq⟩
  · exact (Array.getElem?_eq_some_iff.1 h.hd).1
  · obtain ⟨es, ck, hb⟩ := h.dr.block; exact (Array.getElem?_eq_some_iff.1 hb).1
  · obtain ⟨es, ck, hb⟩ := h.sr.block; exact (Array.getElem?_eq_some_iff.1 hb).1
  · exact hb h.op q hq
  · obtain ⟨i, hi, rfl⟩ := List.mem_iff_getElem.1 hz
    have := (Array.getElem?_eq_some_iff.1 (h.fi i (by rw [← h.fn]; exact hi)).1).1
    simpa [DX.bk, List.getD_eq_getElem?_getD, hi] using this
  · obtain ⟨i, hi, rfl⟩ := List.mem_iff_getElem.1 hz
    have h2 := (h.fi i (by rw [← h.fn]; exact hi)).2
    have e : x.sv i = x.bl[i].2 := by simp [DX.sv, List.getD_eq_getElem?_getD, hi]
    rw [e] at h2
    exact hb h2 q hq
theorem row_lt17 {w : World} {b e s n : Nat} {v : Value} {xs : List Value} (h : w.ownsRow b e s v n xs) : ∀ q ∈ oB v, q < w.heap.size := by
  intro q hm
  rcases h.2 with ⟨hv, -⟩ | ⟨g, cap, cur, hv, hb, hgg, rest⟩
  · rw [hv] at hm; simp [oB, Value.ownBlock] at hm
  · rw [hv] at hm
    simp [oB, Value.ownBlock] at hm
    subst hm; exact (Array.getElem?_eq_some_iff.1 hgg).1
/-- Rows that lie elsewhere stay, and stay elsewhere. -/
theorem Stp.keepR {B : Nat} {w w' : World} {p : Nat} {x : DX} {s : PS} (h : Stp B w p x s w') :
    ∃ x', Dk B w' p x' s ∧ Below B w w' ∧ ∀ (b e z n : Nat) (v : Value) (xs : List Value), w.ownsRow b e z v n xs → (∀ q ∈ oB v, q ∉ x.blk p) → w'.ownsRow b e z v n xs ∧ ∀ q ∈ oB v, q ∉ x'.blk p := by
  obtain ⟨x', d, f, bl, q⟩ := h
  refine ⟨x', d, bl, fun b e z n v xs ho hn => ⟨ownsRow_fr ho f hn, fun c hc hm => ?_⟩⟩
  rcases q c hm with h1 | h1
  · exact hn c hc h1
  · have := row_lt17 ho c hc
    omega
/-- A row that was made behind the disk lies elsewhere. -/
theorem row_new {B : Nat} {w w' : World} {p : Nat} {x : DX} {s : PS} {e z n : Nat} {v : Value} {xs : List Value} (d : Dk B w p x s) (h : w'.ownsRow w.heap.size e z v n xs) : ∀ q ∈ oB v, q ∉ x.blk p := fun q hq hm => by
  have h1 := row_lo h q hq
  have h2 := d.lt15 q hm
  omega
end Go.Proofs.YtinancnlangkjaaGreatDoor

set_option linter.unusedSimpArgs false
set_option linter.unusedVariables false
set_option maxRecDepth 100000
namespace Go.Proofs.YtinancnlangkjaaGreatDoor
open Go Go.RowKit Go.Tum Go.ChangeMaps Go.Tum.Crc Go.Tum.Vint Go.Tum.Opm Go.Nam Go.WideShapes Go.ChangeShapes Go.Deep

def tabZ : List Int := [0, 0, 5, 2, 1, 2, 2, 1, 1, 1, 1, 1, 5, 7, 10, 2, 1, 1]
theorem tabZ_at : ∀ i : Fin 18, tabZ.getD i.val 0 = ((manyT.getD i.val 0 : Nat) : Int) := by decide
theorem cellsOpQ : Tryz.prog.cellsOf 68 = 8 := by kernel_rfl
theorem bytesOpQ : Tryz.prog.bytesOf 68 = 72 := by kernel_rfl
theorem cellsIq : Tryz.prog.cellsOf 3 = 1 := by kernel_rfl
theorem cellsUq : Tryz.prog.cellsOf 32 = 1 := by kernel_rfl
theorem cellsSq : Tryz.prog.cellsOf 9 = 1 := by kernel_rfl
theorem cellsWq : Tryz.prog.cellsOf 66 = 3 := by kernel_rfl
theorem list8 {α : Type} {l : List α} (h : l.length = 8) : ∃ a b c d e f g i, l = [a, b, c, d, e, f, g, i] := by
  match l, h with
  | [a, b, c, d, e, f, g, i], _ => exact ⟨a, b, c, d, e, f, g, i, rfl⟩
theorem nmQ_of (s : ByteArray) : s = str s.data.toList := by
  apply ByteArray.ext
  simp [str]
section
variable {H : Type} {enc : TypeId × Value → H} {w : World} {base : Nat} {held : Bool}
theorem open_whereQ {fuel : Nat} {c0 c1 c2 : Value} {x : DataW H × List MemPlace} (hf : DataW.trod enc Tryz.prog w base (fun _ => true) held fuel 66 [c0, c1, c2] = some x) :
    ∃ (sg ps : UInt64) (sz : Int), [c0, c1, c2] = [uv sg, uv ps, .int .i64 sz] := by
  obtain ⟨y0, y1, y2, n, -, -, h0, h1, h2⟩ := trod_struct3 Tryz.underlying66 hf
  simp only [cellsUq, cellsIq, List.drop_zero, List.drop_succ_cons, List.take_succ_cons, List.take_zero] at h0 h1 h2
  obtain ⟨a0, e0, -, w0⟩ := DataW.trod_int Tryz.underlying32 h0
  obtain ⟨a1, e1, -, w1⟩ := DataW.trod_int Tryz.underlying32 h1
  obtain ⟨a2, e2, -, w2⟩ := DataW.trod_int Tryz.underlying3 h2
  obtain ⟨u, rfl⟩ := Go.Tum.u64_of w0
  obtain ⟨u', rfl⟩ := Go.Tum.u64_of w1
  simp only [List.cons.injEq, and_true] at e0 e1 e2
  subst e0 e1 e2
  exact ⟨u, u', a2, rfl⟩
theorem open_opsQ {v : Value} {d : DataW H} {p : List MemPlace} {r : Reach} {b0 : Nat} (hval : Value.okWide Tryz.prog w r b0 33 v) (h : DataW.Trod enc Tryz.prog w base (fun _ => true) held 33 v d p) :
    ∃ m : List Oq, Ops w v m ∧ (m = [] ∨ ∃ es sp, d = .slice es sp ∧ es.length = m.length) := by
  obtain ⟨a, len, cap, rfl⟩ := okWide_slice Tryz.underlying33 hval
  obtain ⟨fuel, hf⟩ := h
  replace hf : DataW.trod enc Tryz.prog w base (fun _ => true) held fuel 33 [.slice a len cap] = some (d, p) := hf
  rcases open_slice Tryz.underlying33 hf with ⟨h0, _⟩ | ⟨a, len, cap, m, n0, D, Pl, hcs, hb, hl, hm, hmm, hx, hi⟩
  · simp at h0
    obtain ⟨rfl, rfl, rfl⟩ := h0
    exact ⟨[], RowsOf.nil _ _ _, .inl rfl⟩
  · simp at hcs
    obtain ⟨rfl, rfl, rfl⟩ := hcs
    simp at hmm
    subst hmm
    have hd := (Prod.mk.inj hx).1
    have hrow : ∀ i, i < len → ∃ q : Oq, ∀ j u, (ocells q)[j]? = some u → w.cell? (a.add (i * 8 + j)) = some u := by
      intro i hil
      obtain ⟨cs', hc, htr⟩ := hi i (by omega)
      rw [cellsOpQ] at hc
      obtain ⟨_, hcl, hat⟩ := World.cells?_some hc
      obtain ⟨ys, n', -, -, -, hyl, hfj⟩ := DataW.trod_struct Tryz.underlying68 htr
      obtain ⟨c0, c1, c2, c3, c4, c5, c6, c7, rfl⟩ := list8 hcl
      have hcell : ∀ j u, [c0, c1, c2, c3, c4, c5, c6, c7][j]? = some u → w.cell? (a.add (i * 8 + j)) = some u := by
        intro j u hu
        have hj : j < 8 := (List.getElem?_eq_some_iff.1 hu).1
        have h1 := hat j hj
        rw [Go.Deep.add_add] at h1
        rw [h1, hu]
      have t0 : DataW.trod enc Tryz.prog w base (fun _ => true) held n' 3 (([c0, c1, c2, c3, c4, c5, c6, c7].drop 0).take (Tryz.prog.cellsOf 3)) = ys[0]? := hfj 0 _ rfl
      have t1 : DataW.trod enc Tryz.prog w base (fun _ => true) held n' 3 (([c0, c1, c2, c3, c4, c5, c6, c7].drop 1).take (Tryz.prog.cellsOf 3)) = ys[1]? := hfj 1 _ rfl
      have t2 : DataW.trod enc Tryz.prog w base (fun _ => true) held n' 32 (([c0, c1, c2, c3, c4, c5, c6, c7].drop 2).take (Tryz.prog.cellsOf 32)) = ys[2]? := hfj 2 _ rfl
      have t3 : DataW.trod enc Tryz.prog w base (fun _ => true) held n' 32 (([c0, c1, c2, c3, c4, c5, c6, c7].drop 3).take (Tryz.prog.cellsOf 32)) = ys[3]? := hfj 3 _ rfl
      have t4 : DataW.trod enc Tryz.prog w base (fun _ => true) held n' 9 (([c0, c1, c2, c3, c4, c5, c6, c7].drop 4).take (Tryz.prog.cellsOf 9)) = ys[4]? := hfj 4 _ rfl
      have t5 : DataW.trod enc Tryz.prog w base (fun _ => true) held n' 66 (([c0, c1, c2, c3, c4, c5, c6, c7].drop 5).take (Tryz.prog.cellsOf 66)) = ys[5]? := hfj 5 _ rfl
      clear hfj
      have hyl : ys.length = 6 := hyl
      rw [cellsIq] at t0 t1
      rw [cellsUq] at t2 t3
      rw [cellsSq] at t4
      rw [cellsWq] at t5
      have g0 : DataW.trod enc Tryz.prog w base (fun _ => true) held n' 3 [c0] = _ := t0.trans (List.getElem?_eq_getElem (show 0 < ys.length by omega))
      have g1 : DataW.trod enc Tryz.prog w base (fun _ => true) held n' 3 [c1] = _ := t1.trans (List.getElem?_eq_getElem (show 1 < ys.length by omega))
      have g2 : DataW.trod enc Tryz.prog w base (fun _ => true) held n' 32 [c2] = _ := t2.trans (List.getElem?_eq_getElem (show 2 < ys.length by omega))
      have g3 : DataW.trod enc Tryz.prog w base (fun _ => true) held n' 32 [c3] = _ := t3.trans (List.getElem?_eq_getElem (show 3 < ys.length by omega))
      have g4 : DataW.trod enc Tryz.prog w base (fun _ => true) held n' 9 [c4] = _ := t4.trans (List.getElem?_eq_getElem (show 4 < ys.length by omega))
      have g5 : DataW.trod enc Tryz.prog w base (fun _ => true) held n' 66 [c5, c6, c7] = _ := t5.trans (List.getElem?_eq_getElem (show 5 < ys.length by omega))
      clear t0 t1 t2 t3 t4 t5
      obtain ⟨z0, e0, -, w0⟩ := DataW.trod_int Tryz.underlying3 g0
      obtain ⟨z1, e1, -, w1⟩ := DataW.trod_int Tryz.underlying3 g1
      obtain ⟨z2, e2, -, w2⟩ := DataW.trod_int Tryz.underlying32 g2
      obtain ⟨z3, e3, -, w3⟩ := DataW.trod_int Tryz.underlying32 g3
      obtain ⟨s4, e4, -, hs4⟩ := DataW.trod_string Tryz.underlying9 g4
      obtain ⟨sg, ps, sz, e5⟩ := open_whereQ g5
      obtain ⟨u2, rfl⟩ := Go.Tum.u64_of w2
      obtain ⟨u3, rfl⟩ := Go.Tum.u64_of w3
      simp only [List.cons.injEq, and_true] at e0 e1 e2 e3 e4 e5
      obtain ⟨rfl, rfl, rfl⟩ := e5
      subst e0 e1 e2 e3 e4
      refine ⟨⟨z0, z1, u2, u3, s4.data.toList, sg, ps, sz⟩, fun j u hu => hcell j u ?_⟩
      rw [← hu]
      have := nmQ_of s4
      show _ = [_, _, _, _, Value.string (str s4.data.toList), _, _, _][j]?
      rw [← this]
    obtain ⟨q, hq, hQ⟩ := list_of len hrow
    refine ⟨q, RowsOf.mk' hq hl hm (by decide) (fun _ _ => rfl) (fun i h j u hu => (hQ i h) j u hu), .inr ⟨_, _, hd, ?_⟩⟩
    rw [List.length_map, List.length_range, hq]
theorem ops_small {ts : List TypeId} {ds : List (DataW H)} (hz : (DataW.weightsEach Tryz.prog ts ds).all (· ≤ reachBytes) = true) {j : Nat} {d : DataW H} {m : List Oq} (ht : ts[j]? = some 33) (hd : ds[j]? = some d) (h : m = [] ∨ ∃ es sp, d = .slice es sp ∧ es.length = m.length) : m.length * 72 ≤ 140737488355328 := by
  rcases h with rfl | ⟨es, sp, rfl, h⟩
  · simp
  · have h2 := sized_slice hz ht hd Tryz.underlying33
    rw [bytesOpQ] at h2
    have h3 := reachBytes_lt
    have h4 : es.length * 72 ≤ (es.length + sp.length) * 72 := Nat.mul_le_mul_right _ (by omega)
    rw [← h]
    omega
end
end Go.Proofs.YtinancnlangkjaaGreatDoor

set_option linter.unusedSimpArgs false
set_option linter.unusedVariables false
set_option maxRecDepth 100000
namespace Go.Proofs.YtinancnlangkjaaGreatDoor
open Go Go.RowKit Go.Tum Go.ChangeMaps Go.Tum.Crc Go.Tum.Vint Go.Tum.Opm Go.Nam Go.WideShapes Go.ChangeShapes Go.Deep

theorem Dk.low15 {B : Nat} {w : World} {p : Nat} {x : DX} {s : PS} (h : Dk B w p x s) : ∀ q ∈ x.blk p, B ≤ q := by
  intro q hq
  unfold DX.blk at hq
  simp only [List.mem_cons, List.mem_append, List.mem_flatMap, List.mem_map] at hq
  rcases hq with rfl | rfl | rfl | (hq | ⟨z, hz, rfl⟩) | ⟨z, hz, hq⟩
  · exact h.lo.1
  · exact h.lo.2.1
  · exact h.lo.2.2.1
  · exact row_lo h.op q hq
  · obtain ⟨i, hi, rfl⟩ := List.mem_iff_getElem.1 hz
    have := h.lo.2.2.2 i (by rw [← h.fn]; exact hi)
    simpa [DX.bk, List.getD_eq_getElem?_getD, hi] using this
  · obtain ⟨i, hi, rfl⟩ := List.mem_iff_getElem.1 hz
    have h2 := (h.fi i (by rw [← h.fn]; exact hi)).2
    have e : x.sv i = x.bl[i].2 := by simp [DX.sv, List.getD_eq_getElem?_getD, hi]
    rw [e] at h2
    exact row_lo h2 q hq
theorem low_of15 {w : World} {to : Option Addr} {n c : Nat} {ts : List Int} (h : Vec Go.Tum.iv w (.slice to n c) ts) : ∀ a, to = some a → ts ≠ [] → a.block < w.heap.size := by
  obtain ⟨-, ao, cap, e, -, -, -, hc⟩ := h
  simp only [Value.slice.injEq] at e
  obtain ⟨rfl, -, -⟩ := e
  rintro a rfl hne
  cases ts with
  | nil => exact absurd rfl hne
  | cons t r =>
    have := hc a rfl 0 _ rfl
    have h0 : a.add 0 = a := by simp [Addr.add]
    rw [h0] at this
    unfold World.cell? at this
    cases hg : w.heap[a.block]? with
    | none => rw [hg] at this; cases this
    | some o => exact (Array.getElem?_eq_some_iff.1 hg).1
theorem vec_of_row_i15 {w : World} {a : Option Addr} {len cap : Nat} {zs : List Int}
    (h : (a = none ∧ len = 0 ∧ cap = 0 ∧ zs = []) ∨ ∃ ad, a = some ad ∧ len ≤ cap ∧ cap ≤ maxLen ∧ zs.length = cap ∧ (∀ i, i < zs.length → w.cell? (ad.add i) = some (.int .i64 (zs.getD i 0))) ∧ ∀ z ∈ zs, (Lit.int .i64 z).wf = true) :
    ∃ l : List Int, Vec Go.Tum.iv w (.slice a len cap) l ∧ ∀ t ∈ l, -9223372036854775808 ≤ t ∧ t ≤ 9223372036854775807 := by
  rcases h with ⟨rfl, rfl, rfl, rfl⟩ | ⟨ad, rfl, hl, hm, hz, hc, hw⟩
  · exact ⟨[], Vec.nil _, fun t ht => by simp at ht⟩
  · refine ⟨zs.take len, ⟨by simp, some ad, cap, by rw [List.length_take, Nat.min_eq_left (by omega)], by rw [List.length_take]; omega, hm, fun h => (by cases h), fun b hb j u hu => ?_⟩, fun t ht => ?_⟩
    · cases hb
      rw [List.getElem?_map, List.getElem?_take] at hu
      split at hu
      · rename_i hj
        have hjz : j < zs.length := by omega
        rw [List.getElem?_eq_getElem hjz] at hu
        simp at hu
        subst hu
        rw [hc j hjz]
        simp [List.getD, List.getElem?_eq_getElem hjz]
      · simp at hu
    · exact i64_wf (hw t (List.mem_of_mem_take ht))
section
variable {H : Type} {enc : TypeId × Value → H} {w : World} {base : Nat} {held : Bool}
theorem open_iv15 {v : Value} {d : DataW H} {p : List MemPlace} {r : Reach} {b0 : Nat} (hval : Value.okWide Tryz.prog w r b0 34 v) (h : DataW.Trod enc Tryz.prog w base (fun _ => true) held 34 v d p) :
    ∃ l : List Int, Vec Go.Tum.iv w v l ∧ ∀ t ∈ l, -9223372036854775808 ≤ t ∧ t ≤ 9223372036854775807 := by
  obtain ⟨a, len, cap, rfl⟩ := okWide_slice Tryz.underlying34 hval
  obtain ⟨fuel, hf⟩ := h
  replace hf : DataW.trod enc Tryz.prog w base (fun _ => true) held fuel 34 [.slice a len cap] = some (d, p) := hf
  rcases Go.ChangeShapes.open_ints Tryz.underlying34 Tryz.underlying3 (by kernel_rfl) hf with ⟨h0, _⟩ | ⟨a, len, cap, zs, hcs, hb, hl, hm, hz, hx, hcell, hw⟩
  · simp at h0
    obtain ⟨rfl, rfl, rfl⟩ := h0
    exact vec_of_row_i15 (.inl ⟨rfl, rfl, rfl, rfl⟩)
  · simp at hcs
    obtain ⟨rfl, rfl, rfl⟩ := hcs
    exact vec_of_row_i15 (.inr ⟨a, rfl, hl, hm, by simpa using hz, hcell, hw⟩)
end
section
variable {P : Program}
/-- An operation whose guard says yes, as one without a guard. -/
theorem wpList_unguard {ops : Array Oper} {rest : List Oper} {o : Oper} {a : Act} {w : World} {Q : Exit → Act → World → Prop} (hw : Region.wanted o (yielded ops a.tmps) = true)
    (h : wpList P ops Q ({ o with guard := none } :: rest) a w) : wpList P ops Q (o :: rest) a w := by
  obtain ⟨dst, op, ty, pos, after, guard⟩ := o
  unfold wpList at h ⊢
  rw [if_pos hw]
  rw [if_pos (show Region.wanted { dst := dst, op := op, type := ty, pos := pos, after := after, guard := none } (yielded ops a.tmps) = true from rfl)] at h
  exact h
/-- 'append(s, x...)': s the call's own row of acts, x a row of acts. -/
theorem wpList_append_ops {ops : Array Oper} {rest : List Oper} {o : Oper} {a : Act} {w : World} {Q : Exit → Act → World → Prop} (hgd : o.guard = none) (s x : Operand) (t : Nat)
    (ho : o.op = .call { callee := .builtin .append, args := #[s, x], argTypes := #[t, t] }) (base T : Nat) (ht : P.underlying t = some (.slice T))
    (hi : (P.info? T).map (fun i => (i.zero, i.size, i.bytes)) = some (some (.agg #[.int .i64 0, .int .i64 0, .int .u64 0, .int .u64 0, .string ⟨#[]⟩, .int .u64 0, .int .u64 0, .int .i64 0]), 8, 72))
    {v u : Value} {l m : List Oq} (hs : a.eval s = v) (hown : OpsO w base T v l) (hx : a.eval x = u) (hm : Ops w u m)
    (N : Nat) (hN : N = l.length + m.length) (hb : N ≤ 1000000) (hbase : base ≤ w.heap.size)
    (h : ∀ ao cap w', OpsO w' base T (.slice ao N cap) (l ++ m) → Below base w w' → N ≤ cap → wpList P ops Q rest (a.put o.dst (.slice ao N cap)) w') :
    wpList P ops Q (o :: rest) a w := by
  subst hN
  have hone : ∀ y ∈ m.flatMap ocells, y.oneCell' = true := fun y hy => by
    obtain ⟨z, -, hz⟩ := List.mem_flatMap.1 hy
    exact o_one z y hz
  refine wpList_append_sl hgd s x t ho base T ht hi rfl (by decide) hs hown hx hm.2 hone (by simp [maxLen]; omega) (by omega) hbase fun ao cap w' k1 k2 k3 => ?_
  have hr : OpsO w' base T (.slice ao (l.length + m.length) cap) (l ++ m) := by
    show w'.ownsRow base T 8 _ (l ++ m).length ((l ++ m).flatMap ocells)
    rw [List.length_append, List.flatMap_append]
    exact k1
  exact h ao cap w' hr k3 (hr.ops.opens.2.1)
end
/-- The beginning of a row of acts. -/
theorem ops_prefix {w : World} {ao : Option Addr} {n cap : Nat} {l : List Oq} (h : Ops w (.slice ao n cap) l) (k : Nat) (hk : k ≤ l.length) : Ops w (.slice ao k cap) (l.take k) := by
  obtain ⟨h0, h1, h2, h3, h4⟩ := h.opens
  have hlen : (l.take k).length = k := by rw [List.length_take]; omega
  refine ⟨fun _ _ => rfl, ?_⟩
  have hfl : ((l.take k).flatMap ocells).length = k * 8 := by rw [flat_len (c := ocells) (size := 8) (fun _ _ => rfl), hlen]
  refine (show Sl w 8 (.slice ao k cap) (l.take k).length ((l.take k).flatMap ocells) from ?_)
  rw [hlen]
  obtain ⟨_, ao', cap', e, h5, h6, h7, h8⟩ := h.2
  cases e
  refine ⟨hfl, ao, cap, rfl, by omega, h6, h7, fun a ha j u hu => h8 a ha j u ?_⟩
  have hs : l.flatMap ocells = (l.take k).flatMap ocells ++ (l.drop k).flatMap ocells := by rw [← List.flatMap_append, List.take_append_drop]
  rw [hs, List.getElem?_append_left (List.getElem?_eq_some_iff.1 hu).1, hu]

/-! ### mathematics -/
/-- What is loaded behind a crash. -/
theorem sure_load {a b : List Oq} (h : allR (a ++ b) = true) {k : Nat} (h1 : (opsB a).length ≤ k) (h2 : k ≤ (opsB (a ++ b)).length) :
    ∃ j, a.length ≤ j ∧ j ≤ (a ++ b).length ∧ (opsB ((a ++ b).take j)).length ≤ k ∧ loadB ((opsB (a ++ b)).take k) = ((a ++ b).take j, opsE 0 ((a ++ b).take j), 0) := by
  obtain ⟨n, e, k1, k2, k3, k4, k5⟩ := rall_part h k h2
  refine ⟨n, k4 a.length (by simp) (by rw [List.take_left' rfl]; exact h1), k1, k3, ?_⟩
  rw [load_of (k5 0) (allR_take h n)]
  rcases k2 with rfl | rfl <;> simp
theorem opsB_take (l : List Oq) : ∀ j, opsB (l.take j) = (opsB l).take (opsB (l.take j)).length := fun j => by
  have h : opsB l = opsB (l.take j) ++ opsB (l.drop j) := by rw [← opsB_append, List.take_append_drop]
  rw [h, List.take_left' rfl]
/-- Where what was loaded ends. -/
def endL (l : List Oq) : Nat := (opsB l).length
theorem endL_last {l : List Oq} (h : 0 < l.length) (hl : l.length - 1 < (opsE 0 l).length) : (opsE 0 l)[l.length - 1] = endL l := by
  rw [opsE_at]
  unfold endL
  have : l.length - 1 + 1 = l.length := by omega
  rw [this, List.take_length]; omega
theorem endL_nil {l : List Oq} (h : l.length = 0) : endL l = 0 := by
  rw [List.length_eq_zero_iff.1 h]; rfl
/-- Cut where it ends, then more. -/
theorem sure_cut {gen : UInt64} {R : Nat} {T : List UInt8} {k m q : Nat} (hg : gen.toNat < 10000000000) (hq : q ≤ k) (hk : k ≤ T.length) (hm : m ≤ k) :
    ∃ m', evC (eV R (evN gen.toNat) (T.take k) m) gen (q : Int) = (0, eV R (evN gen.toNat) (T.take q) m') := by
  have hlen : (T.take k).length = k := by rw [List.length_take]; omega
  obtain ⟨m', -, -, -, h⟩ := bV_C (R := R) (c := T.take k) (m := m) hg (k := q) (by rw [hlen]; exact hq) (by rw [hlen]; exact hm)
  refine ⟨m', ?_⟩
  rw [h, List.take_take, Nat.min_eq_left hq]
end Go.Proofs.YtinancnlangkjaaGreatDoor

