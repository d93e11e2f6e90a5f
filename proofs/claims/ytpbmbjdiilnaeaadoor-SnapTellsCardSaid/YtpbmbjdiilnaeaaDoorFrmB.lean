/- Package frame: Read. -/
import Derived.Test.YtpbmbjdiilnaeaaDoorFrmA
import Derived.Handy
import Derived.Lib.SmallJoins
set_option maxRecDepth 100000
namespace Go.Proofs.YtpbmbjdiilnaeaaDoor
open Go.RowKit Go.Tum Go.Tum.Crc

theorem i64_or_nat (a b : Nat) (ha : a < 9223372036854775808) (hb : b < 9223372036854775808) : bits .or .i64 (a : Int) (b : Int) = ((a ||| b : Nat) : Int) := by
  have hx : a ||| b < 2 ^ 63 := Nat.or_lt_two_pow (by omega) (by omega)
  show IntKind.i64.wrap ((BitVec.ofInt 64 (a : Int) ||| BitVec.ofInt 64 (b : Int)).toNat : Int) = _
  have e : ∀ a : Nat, a < 9223372036854775808 → (BitVec.ofInt 64 (a : Int)).toNat = a := fun a ha => by
    rw [BitVec.ofInt_natCast, BitVec.toNat_ofNat]; exact Nat.mod_eq_of_lt (by omega)
  rw [BitVec.toNat_or, e a ha, e b hb, IntKind.wrap_i64]
  omega
theorem or_two (a b : UInt8) : bits .or .i64 (bits .or .i64 0 (a.toNat : Int)) ((b.toNat : Int) * 256) = ((a.toNat + 256 * b.toNat : Nat) : Int) := by
  have ha := a.toNat_lt
  have hb := b.toNat_lt
  have e1 := i64_or_nat 0 a.toNat (by omega) (by omega)
  rw [Nat.zero_or] at e1
  have e2 : ((b.toNat : Int) * 256) = ((256 * b.toNat : Nat) : Int) := by omega
  rw [show ((0 : Int)) = ((0 : Nat) : Int) from rfl, e1, e2, i64_or_nat _ _ (by omega) (by omega), Nat.or_comm, nat_join 8 _ _ (by omega) ha, Nat.add_comm]

theorem ret_val {k : IntKind} {a b : Int} (h : a = b) : Ending.returned (.int k a) = .returned (.int k b) := by rw [h]

theorem cut_isPut {l : List UInt8} (h : isPut l = true) : Crc.cut l = l.take (l.length - 4) := by unfold Crc.cut; rw [if_pos h]
theorem cut_not {l : List UInt8} (h : isPut l = false) : Crc.cut l = [] := by unfold Crc.cut; rw [h]; rfl
theorem take3 (b : List UInt8) (h : 7 ≤ b.length) : (b.take 7).take ((b.take 7).length - 4) = [b.getD 0 0, b.getD 1 0, b.getD 2 0] := by
  match b, h with
  | x :: y :: z :: _ :: _ :: _ :: _ :: r, _ => simp

theorem blk2 {w : World} {b : Nat} {p q : Value} {ty : TypeId} (h : w.heap[b]? = some (.cells #[p, q] ty (0, 0))) :
    w.cell? ⟨b, 0, none⟩ = some p ∧ w.cell? ⟨b, 1, none⟩ = some q ∧ w.frozen? ⟨b, 0, none⟩ = false ∧ w.frozen? ⟨b, 1, none⟩ = false := by
  refine ⟨by rw [cell_of_row _ _ _ _ _ _ h]; rfl, by rw [cell_of_row _ _ _ _ _ _ h]; rfl, by simp [World.frozen?, h], by simp [World.frozen?, h]⟩
theorem own_setLow {w : World} {b e : Nat} {v : Value} {l : List UInt8} (h : Own w b e v l) (a : Addr) (u : Value) (ha : a.block < b) : Own (w.setCell a u) b e v l := by
  refine ⟨h.1, ?_⟩
  rcases h.2 with hn | ⟨g', cap', cur, hv, hb, hgg, rest⟩
  · exact .inl hn
  · exact .inr ⟨g', cap', cur, hv, hb, by rw [heap_setCell_other _ _ _ _ (by omega)]; exact hgg, rest⟩

theorem ret_fr {x : Value} {n m e : Int} (h : n = m) : Ending.returned (.tuple #[x, .int .i64 n, .int .i64 e]) = .returned (.tuple #[x, .int .i64 m, .int .i64 e]) := by rw [h]

/-- What Read answers. -/
def ReadR (T : Nat) (w : World) (b : List UInt8) (e : Ending) (w' : World) : Prop :=
  ∃ r, e = .returned (.tuple #[fv (fread b).1 r, .int .i64 ((fread b).2.1 : Nat), .int .i64 (fread b).2.2]) ∧ Own w' w.heap.size T r (fread b).1.body ∧ Ext w w'

end Go.Proofs.YtpbmbjdiilnaeaaDoor
