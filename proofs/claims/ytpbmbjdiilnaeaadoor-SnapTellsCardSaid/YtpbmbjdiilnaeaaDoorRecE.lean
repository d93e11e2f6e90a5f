/- Package record: Read. -/
import Derived.Test.YtpbmbjdiilnaeaaDoorRecD
import Derived.Test.YtpbmbjdiilnaeaaDoorFrmB
set_option maxRecDepth 100000
namespace Go.Proofs.YtpbmbjdiilnaeaaDoor
open Go.RowKit Go.Tum Go.Tum.Crc Go.Tum.Vint

def ReadR5 (T : Nat) (w : World) (x : Fr) (e : Ending) (w' : World) : Prop :=
  ∃ v, e = .returned (.tuple #[rv (recRead x).1 v, .int .i64 (recRead x).2]) ∧ OwV uv w' w.heap.size T v (recRead x).1.n ∧ Ext w w'

/-- What the loop knows: k of m numbers are read, acc, and left is left. -/
def GR (m k : Nat) (body : List UInt8) (acc : List UInt64) (left : List UInt8) : Prop := (gets m body).2.2 = (gets (m - k) left).2.2 ∧
  ((gets (m - k) left).2.2 = 0 → (gets m body).1 = acc ++ (gets (m - k) left).1 ∧ (gets m body).2.1 = (gets (m - k) left).2.1)
theorem GR.start (m : Nat) (body : List UInt8) : GR m 0 body [] body := ⟨rfl, fun _ => ⟨rfl, rfl⟩⟩
theorem GR.err {m k : Nat} {body left : List UInt8} {acc : List UInt64} (h : GR m k body acc left) (hk : k < m) (he : (vget left).2.2 ≠ 0) : (gets m body).2.2 = (vget left).2.2 := by
  have h1 := h.1
  obtain ⟨j, hj⟩ : ∃ j, m - k = j + 1 := ⟨m - k - 1, by omega⟩
  rw [hj] at h1
  rw [h1]
  simp only [gets]
  rw [if_pos he]
theorem GR.step {m k : Nat} {body left : List UInt8} {acc : List UInt64} (h : GR m k body acc left) (hk : k < m) (he : (vget left).2.2 = 0) :
    GR m (k + 1) body (acc ++ [UInt64.ofNat (vget left).1]) (left.drop (vget left).2.1) := by
  obtain ⟨h1, h2⟩ := h
  obtain ⟨j, hj⟩ : ∃ j, m - k = j + 1 := ⟨m - k - 1, by omega⟩
  have hj2 : m - (k + 1) = j := by omega
  rw [hj] at h1 h2
  unfold GR
  rw [hj2]
  simp only [gets] at h1 h2
  rw [if_neg (by simp [he])] at h1 h2
  by_cases h3 : (gets j (left.drop (vget left).2.1)).2.2 = 0
  · rw [if_neg (by simp [h3])] at h1 h2
    refine ⟨by rw [h1, h3], fun _ => ?_⟩
    obtain ⟨i1, i2⟩ := h2 rfl
    exact ⟨by rw [i1]; simp, i2⟩
  · rw [if_pos h3] at h1
    exact ⟨h1, fun h => absurd h h3⟩
theorem GR.fin {m : Nat} {body left : List UInt8} {acc : List UInt64} (h : GR m m body acc left) : gets m body = (acc, left, 0) := by
  obtain ⟨h1, h2⟩ := h
  rw [Nat.sub_self] at h1 h2
  obtain ⟨i1, i2⟩ := h2 rfl
  apply Prod.ext
  · rw [i1]; simp [gets]
  · exact Prod.ext (by rw [i2]; rfl) h1

theorem blk3f {w : World} {b : Nat} {p q s : Value} {ty : TypeId} (h : w.heap[b]? = some (.cells #[p, q, s] ty (0, 0))) :
    w.cell? ⟨b, 0, none⟩ = some p ∧ w.cell? ⟨b, 1, none⟩ = some q ∧ w.cell? ⟨b, 2, none⟩ = some s ∧ w.frozen? ⟨b, 0, none⟩ = false ∧ w.frozen? ⟨b, 1, none⟩ = false ∧ w.frozen? ⟨b, 2, none⟩ = false := by
  obtain ⟨h1, h2, h3⟩ := blk3 h
  exact ⟨h1, h2, h3, by simp [World.frozen?, h], by simp [World.frozen?, h], by simp [World.frozen?, h]⟩
theorem owv_setLow {α : Type} {f : α → Value} {w : World} {b e : Nat} {v : Value} {l : List α} (h : OwV f w b e v l) (a : Addr) (u : Value) (ha : a.block < b) : OwV f (w.setCell a u) b e v l := by
  refine ⟨h.1, ?_⟩
  rcases h.2 with hn | ⟨g', cap', cur, hv, hb, hgg, rest⟩
  · exact .inl hn
  · exact .inr ⟨g', cap', cur, hv, hb, by rw [heap_setCell_other _ _ _ _ (by omega)]; exact hgg, rest⟩
theorem recRead_none {k : UInt8} {b : List UInt8} (h : knownB k.toNat = false) : recRead ⟨k, b⟩ = (r0, 2) := by unfold recRead; rw [if_pos h]
theorem recRead_some {k : UInt8} {b : List UInt8} (h : knownB k.toNat = true) : recRead ⟨k, b⟩ =
    if (gets (many k.toNat) b).2.2 ≠ 0 then (r0, ((gets (many k.toNat) b).2.2 : Int)) else if textB k.toNat (gets (many k.toNat) b).2.1.length = false then (r0, 2) else (⟨k.toNat, (gets (many k.toNat) b).1, (gets (many k.toNat) b).2.1⟩, 0) := by
  unfold recRead
  rw [if_neg (by simp [h])]

theorem below_obj {B g : Nat} {a b : World} {o : Obj} (h : Below B a b) (hg : g < B) (ho : a.heap[g]? = some o) : b.heap[g]? = some o := by
  exact (h.block g hg).trans ho
end Go.Proofs.YtpbmbjdiilnaeaaDoor
