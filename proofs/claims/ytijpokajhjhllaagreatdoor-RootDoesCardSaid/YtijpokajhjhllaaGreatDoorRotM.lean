/- The root: mathematics. -/
import Derived.Test.YtijpokajhjhllaaGreatDoorDskP
import Derived.Test.YtijpokajhjhllaaGreatDoorRecM
set_option linter.unusedSimpArgs false
set_option linter.unusedVariables false
namespace Go.Proofs.YtijpokajhjhllaaGreatDoor
open Go Go.RowKit Go.Tum Go.Tum.Crc

/-- A root. -/
structure Rt where
  gen : UInt64
  lanes : Int
  pay : Int
  del : Int
  seg : Int
deriving DecidableEq
def rt0 : Rt := ⟨0, 0, 0, 0, 0⟩
def cfgB (l p d : Int) : Bool := decide (1 ≤ l) && (decide (l ≤ 8) && (decide (0 ≤ p) && (decide (p ≤ 64) && (decide (1 ≤ d) && decide (d ≤ 20)))))
def rtB (r : Rt) : Bool := decide (1 ≤ r.gen.toNat) && (decide (r.gen.toNat < 10000000000) && (cfgB r.lanes r.pay r.del && (decide (64 ≤ r.seg) && decide (r.seg ≤ 65536))))
def rtRec (r : Rt) : Rc := ⟨12, [r.gen, UInt64.ofNat r.lanes.toNat, UInt64.ofNat r.pay.toNat, UInt64.ofNat r.del.toNat, UInt64.ofNat r.seg.toNat], []⟩
def rtBytes (r : Rt) : List UInt8 := fbytes (recFr (rtRec r))
def nRoot : Nm := [114, 111, 111, 116]
def nFresh : Nm := [114, 111, 111, 116, 46, 110, 101, 119]
/-- Acts one by one, up to the first error. -/
def seqP : List (PS → Nat × PS) → PS → Nat × PS
  | [], s => (0, s)
  | f :: r, s => if (f s).1 = 0 then seqP r (f s).2 else f s
def delT (n : Nm) (s : PS) : Nat × PS := if (delP s n).1 = 5 then (0, (delP s n).2) else delP s n
def wrOps (b : List UInt8) : List (PS → Nat × PS) := [delT nFresh, fun s => creP s nFresh, fun s => appP s nFresh b, fun s => synP s nFresh, fun s => renP s nFresh nRoot, dsyP]
def wrP (s : PS) (r : Rt) : Nat × PS := if rtB r then seqP (wrOps (rtBytes r)) s else (1, s)
/-- What is read. -/
def rdRec (l : List Rc × List Nat × Int) : Rt × Int :=
  if l.2.2 ≠ 0 then (rt0, l.2.2)
  else match l.1 with
  | [x] => if x.kind = 12 then (if rtB ⟨x.n.getD 0 0, (x.n.getD 1 0).toNat, (x.n.getD 2 0).toNat, (x.n.getD 3 0).toNat, (x.n.getD 4 0).toNat⟩ then (⟨x.n.getD 0 0, (x.n.getD 1 0).toNat, (x.n.getD 2 0).toNat, (x.n.getD 3 0).toNat, (x.n.getD 4 0).toNat⟩, 0) else (rt0, 2)) else (rt0, 2)
  | _ => (rt0, 2)
theorem rt_rec (r : Rt) : rightB (rtRec r) = true := by
  unfold rightB rtRec
  simp [knownB, textB, many, manyT]
theorem u64_int {n : Int} (h0 : 0 ≤ n) (h1 : n ≤ 1000000) : ((UInt64.ofNat n.toNat).toNat : Int) = n := by
  rw [UInt64.toNat_ofNat']
  omega
theorem rt_len (r : Rt) : (rtBytes r).length ≤ 411 ∧ 11 ≤ (rtBytes r).length := by
  have h1 := body_le (rt_rec r)
  unfold rtBytes
  rw [fbytes_length]
  have h2 : (recFr (rtRec r)).body.length = (recBody (rtRec r)).length := rfl
  omega
theorem rt_all (r : Rt) : ∃ e, rall 0 (rtBytes r) = ([rtRec r], e, 0) := by
  have hb := body_le (rt_rec r)
  have hl := rt_len r
  have h1 := fread_fbytes (recFr (rtRec r)) [] hb
  rw [List.append_nil] at h1
  have hne : rtBytes r ≠ [] := fun e => by rw [e] at hl; simp at hl
  have h2 := recRead_fr (rt_rec r)
  have h0 : (fread (rtBytes r)).2.2 = 0 := by unfold rtBytes; rw [h1]
  have hr : (recRead (fread (rtBytes r)).1).2 = 0 := by unfold rtBytes; rw [h1]; dsimp only; rw [h2]
  rw [rall_ok hne h0 hr]
  have hd : (rtBytes r).drop (fread (rtBytes r)).2.1 = [] := by
    unfold rtBytes
    rw [h1]
    refine List.drop_of_length_le ?_
    rw [fbytes_length]
    exact Nat.le_refl _
  rw [hd, rall_nil]
  have h3 : (recRead (fread (rtBytes r)).1).1 = rtRec r := by unfold rtBytes; rw [h1]; dsimp only; rw [h2]
  rw [h3]
  exact ⟨_, rfl⟩
theorem rd_wr {r : Rt} (h : rtB r = true) : rdRec (rall 0 (rtBytes r)) = (r, 0) := by
  obtain ⟨e, he⟩ := rt_all r
  rw [he]
  have h' := h
  unfold rtB cfgB at h'
  simp only [Bool.and_eq_true, decide_eq_true_eq] at h'
  obtain ⟨h1, h2, ⟨l1, l2, p1, p2, d1, d2⟩, s1, s2⟩ := h'
  have e1 := u64_int (n := r.lanes) (by omega) (by omega)
  have e2 := u64_int (n := r.pay) (by omega) (by omega)
  have e3 := u64_int (n := r.del) (by omega) (by omega)
  have e4 := u64_int (n := r.seg) (by omega) (by omega)
  have hR : (⟨(rtRec r).n.getD 0 0, (((rtRec r).n.getD 1 0).toNat : Int), (((rtRec r).n.getD 2 0).toNat : Int), (((rtRec r).n.getD 3 0).toNat : Int), (((rtRec r).n.getD 4 0).toNat : Int)⟩ : Rt) = r := by
    show (⟨r.gen, ((UInt64.ofNat r.lanes.toNat).toNat : Int), ((UInt64.ofNat r.pay.toNat).toNat : Int), ((UInt64.ofNat r.del.toNat).toNat : Int), ((UInt64.ofNat r.seg.toNat).toNat : Int)⟩ : Rt) = r
    rw [e1, e2, e3, e4]
  unfold rdRec
  dsimp only
  rw [if_neg (by simp), if_pos (by rfl), hR, if_pos h]
/-! ### A root on an empty disk, and another one behind it -/
def A1 (room : Nat) (b : List UInt8) : PS := ⟨room, [(b, b.length)], [(nRoot, 0)], [], -1, false⟩
def A2 (room : Nat) (b c : List UInt8) : PS := ⟨room, [(b, b.length), (c, c.length)], [(nRoot, 1)], [], -1, false⟩
theorem wr0 {room : Nat} {r : Rt} (h : rtB r = true) (hb : (rtBytes r).length ≤ room) : wrP (newP room) r = (0, A1 room (rtBytes r)) := by
  unfold wrP
  rw [if_pos h]
  obtain ⟨b, hbb⟩ : ∃ b, rtBytes r = b := ⟨_, rfl⟩
  rw [hbb] at hb ⊢
  have e1 : delT nFresh (newP room) = (0, newP room) := rfl
  have e2 : creP (newP room) nFresh = (0, ⟨room, [([], 0)], [], [⟨[], nFresh, some 0⟩], -1, false⟩) := rfl
  have e3 : appP ⟨room, [([], 0)], [], [⟨[], nFresh, some 0⟩], -1, false⟩ nFresh b = (0, ⟨room, [(b, 0)], [], [⟨[], nFresh, some 0⟩], -1, false⟩) := by
    have hE : appE ⟨room, [([], 0)], [], [⟨[], nFresh, some 0⟩], -1, false⟩ nFresh b = 0 := by
      have hn : ¬ look (⟨room, [([], 0)], [], [⟨[], nFresh, some 0⟩], -1, false⟩ : PS).dir nFresh = none := fun h => absurd (show (some 0 : Option Nat) = none from h) (by decide)
      unfold appE
      rw [if_neg hn, if_neg]
      show ¬ room < 0 + b.length
      omega
    unfold appP
    rw [hE]
    rfl
  have e4 : synP ⟨room, [(b, 0)], [], [⟨[], nFresh, some 0⟩], -1, false⟩ nFresh = (0, ⟨room, [(b, b.length)], [], [⟨[], nFresh, some 0⟩], -1, false⟩) := rfl
  have e5 : renP ⟨room, [(b, b.length)], [], [⟨[], nFresh, some 0⟩], -1, false⟩ nFresh nRoot = (0, ⟨room, [(b, b.length)], [], [⟨[], nFresh, some 0⟩, ⟨nFresh, nRoot, some 0⟩], -1, false⟩) := rfl
  have e6 : dsyP ⟨room, [(b, b.length)], [], [⟨[], nFresh, some 0⟩, ⟨nFresh, nRoot, some 0⟩], -1, false⟩ = (0, A1 room b) := rfl
  simp only [wrOps, seqP, e1, e2, e3, e4, e5, e6, if_true]
theorem wr1 {room : Nat} {r : Rt} {b : List UInt8} (h : rtB r = true) (hb : b.length + (rtBytes r).length ≤ room) : wrP (A1 room b) r = (0, A2 room b (rtBytes r)) := by
  unfold wrP
  rw [if_pos h]
  obtain ⟨c, hc⟩ : ∃ c, rtBytes r = c := ⟨_, rfl⟩
  rw [hc] at hb ⊢
  have e1 : delT nFresh (A1 room b) = (0, A1 room b) := rfl
  have e2 : creP (A1 room b) nFresh = (0, ⟨room, [(b, b.length), ([], 0)], [(nRoot, 0)], [⟨[], nFresh, some 1⟩], -1, false⟩) := rfl
  have e3 : appP ⟨room, [(b, b.length), ([], 0)], [(nRoot, 0)], [⟨[], nFresh, some 1⟩], -1, false⟩ nFresh c = (0, ⟨room, [(b, b.length), (c, 0)], [(nRoot, 0)], [⟨[], nFresh, some 1⟩], -1, false⟩) := by
    have hE : appE ⟨room, [(b, b.length), ([], 0)], [(nRoot, 0)], [⟨[], nFresh, some 1⟩], -1, false⟩ nFresh c = 0 := by
      have hn : ¬ look (⟨room, [(b, b.length), ([], 0)], [(nRoot, 0)], [⟨[], nFresh, some 1⟩], -1, false⟩ : PS).dir nFresh = none := fun h => absurd (show (some 1 : Option Nat) = none from h) (by decide)
      unfold appE
      rw [if_neg hn, if_neg]
      show ¬ room < (b.length + (0 + 0)) + c.length
      omega
    unfold appP
    rw [hE]
    rfl
  have e4 : synP ⟨room, [(b, b.length), (c, 0)], [(nRoot, 0)], [⟨[], nFresh, some 1⟩], -1, false⟩ nFresh = (0, ⟨room, [(b, b.length), (c, c.length)], [(nRoot, 0)], [⟨[], nFresh, some 1⟩], -1, false⟩) := rfl
  have e5 : renP ⟨room, [(b, b.length), (c, c.length)], [(nRoot, 0)], [⟨[], nFresh, some 1⟩], -1, false⟩ nFresh nRoot = (0, ⟨room, [(b, b.length), (c, c.length)], [(nRoot, 0)], [⟨[], nFresh, some 1⟩, ⟨nFresh, nRoot, some 1⟩], -1, false⟩) := rfl
  have e6 : dsyP ⟨room, [(b, b.length), (c, c.length)], [(nRoot, 0)], [⟨[], nFresh, some 1⟩, ⟨nFresh, nRoot, some 1⟩], -1, false⟩ = (0, A2 room b c) := rfl
  simp only [wrOps, seqP, e1, e2, e3, e4, e5, e6, if_true]
theorem cr1 (room : Nat) (b : List UInt8) : crP (A1 room b) 0 [] = A1 room b := by
  have : crF 0 (b, b.length) = (b, b.length) := by simp [crF]
  unfold crP A1
  simp [dirAt, crA, this]
end Go.Proofs.YtijpokajhjhllaaGreatDoor
