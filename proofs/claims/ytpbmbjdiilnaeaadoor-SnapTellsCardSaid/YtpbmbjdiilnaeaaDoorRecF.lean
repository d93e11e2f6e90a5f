/- Package record: Same; the document's Large, Ints. -/
import Derived.Test.YtpbmbjdiilnaeaaDoorRecE
set_option maxRecDepth 100000
namespace Go.Proofs.YtpbmbjdiilnaeaaDoor
open Go.RowKit Go.Tum Go.Tum.Crc Go.Tum.Vint

def recSame (a b : Rc) : Bool := decide (a = b)
theorem recSame_eq (a b : Rc) : recSame a b = ((a.kind == b.kind) && ((a.n == b.n) && (a.text == b.text))) := by
  unfold recSame
  cases a; cases b
  simp only [Rc.mk.injEq]
  rw [Bool.eq_iff_iff]; simp
theorem str_inj {a b : List UInt8} : str a = str b ↔ a = b := ⟨fun h => by rw [← str_data a, h, str_data b], fun h => by rw [h]⟩

def largeB (r : Rc) : Bool := decide (100 < r.n.length) || decide (300 < r.text.length)
theorem large_any (r : Rc) (v : Value) (w : World) (hv : Vec uv w v r.n) :
    Calls Tryd.prog 21 #[rv r v] w fun e w' => e = .returned (.bool (largeB r)) ∧ Ext w w' := by
  obtain ⟨ao, cap, rfl, -⟩ := hv.open
  obtain ⟨kind, n, text⟩ := r
  clear hv
  have HL := hid (show largeB ⟨kind, n, text⟩ = (decide (100 < n.length) || decide (300 < text.length)) from rfl)
  have hsz := str_size text
  have hE := Ext.alloc w (.cells #[.int .i64 kind, .slice ao n.length cap, .string (str text)] 71)
  have HE := hid hE
  clear hE
  by_cases h1 : 100 < n.length
  · have e1 : decide ((100 : Int) < n.length) = true := by simp; omega
    go_enter Tryd.func21, Tryd.ntmps21
    go_wp2
    go_ret
    refine ⟨?_, HE.out⟩
    rw [HL.out]; simp [h1]
  · have e1 : decide ((100 : Int) < n.length) = false := by simp; omega
    go_enter Tryd.func21, Tryd.ntmps21
    go_wp2
    go_ret
    refine ⟨?_, HE.out⟩
    rw [HL.out]; simp [h1]; try omega

abbrev iv (n : Nat) : Value := .int .i64 (n : Int)
end Go.Proofs.YtpbmbjdiilnaeaaDoor
