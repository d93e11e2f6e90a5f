/- Package record: Bytes. -/
import Derived.Test.YtpbmbjdiilnaeaaDoorRecC
import Derived.Test.YtpbmbjdiilnaeaaDoorStr
import Derived.Test.YtpbmbjdiilnaeaaDoorFrmA
set_option maxRecDepth 100000
namespace Go.Proofs.YtpbmbjdiilnaeaaDoor
open Go.RowKit Go.Tum Go.Tum.Crc Go.Tum.Vint

theorem val_append2 {P : Program} {ρ : Operand → Value} {w w' : World} {K : Value → World → Prop} {v : Value} {t st : Nat} {s x : Operand}
    {dst : Option Tmp} {ty : TypeId} {pos : String} {after : Array Edge} {guard : Option (Nat × Bool)}
    (h : (Builtin.append_ #[t, st] ty #[ρ s, ρ x]).run P w = .ok v w') (hk : K v w') :
    Par.vUpon P K ((execOp ρ { dst, op := .call { callee := .builtin .append, args := #[s, x], argTypes := #[t, st] }, type := ty, pos, after, guard }).run P w) := by
  unfold execOp
  simp only [resolve, invoke, builtin, Sem.run_bind, Sem.run_pure, Result.andThen_ok, List.map_toArray, List.map_cons, List.map_nil, h]
  exact hk
theorem recBytes_ok {r : Rc} (h : rightB r = true) : recBytes r = (fbytes (recFr r), 0) := by unfold recBytes; rw [if_pos h]
theorem recBytes_bad {r : Rc} (h : rightB r = false) : recBytes r = ([], 1) := by unfold recBytes; rw [h]; rfl
theorem right_num {r : Rc} (h : rightB r = true) : r.n.length ≤ 10 ∧ r.text.length ≤ 64 ∧ 1 ≤ r.kind ∧ r.kind ≤ 17 := by
  simp only [rightB, Bool.and_eq_true, decide_eq_true_eq] at h
  have h2 := many_le r.kind
  have h3 := textB_le h.2
  have h4 := h.1.1
  simp only [knownB, Bool.and_eq_true, decide_eq_true_eq] at h4
  omega
theorem kind_wrap {k : Int} (h1 : 1 ≤ k) (h2 : k ≤ 17) : IntKind.u8.wrap k = ((UInt8.ofNat k.toNat).toNat : Int) := by
  have : k.toNat < 256 := by omega
  rw [IntKind.wrap_u8]
  simp; omega

end Go.Proofs.YtpbmbjdiilnaeaaDoor
