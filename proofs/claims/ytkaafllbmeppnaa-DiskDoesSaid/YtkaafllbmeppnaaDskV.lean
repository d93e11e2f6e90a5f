/- Append, whole. -/
import Derived.Test.YtkaafllbmeppnaaDskU
set_option linter.unusedSimpArgs false
set_option linter.unusedVariables false
namespace Go.Proofs.Ytkaafllbmeppnaa
open Go Go.RowKit Go.Tum Go.ChangeMaps
open Go.ParB (upd Lof)
open Go.ParE (putS slotsR slots Closed)
set_option maxHeartbeats 1000000 in
theorem dappend_any {B : Nat} {w : World} {p : Nat} {x : DX} {s : PS} (n : Nm) (b : List UInt8) (u : Value) (hk : n.length ≤ maxLen) (hu : Byt w u b) (hbl : b.length ≤ 1048576) (h : Dk B w p x s) (hB : B ≤ w.heap.size) (hg : Gd (appP s n b).2)  :
    Calls Try.prog 24 #[pv p, vN n, u] w fun e w' => DoR B w p x (appP s n b) e w' := by
  obtain ⟨uo, ucap, hue, -⟩ := hu.open
  have E0 : Ext w (w.alloc (.cells #[pv p] 25 (0, 0))) := Ext.alloc _ _
  have E1 : Ext w ((w.alloc (.cells #[pv p] 25 (0, 0))).alloc (.cells #[vN n] 9 (0, 0))) := E0.trans (Ext.alloc (w.alloc (.cells #[pv p] 25 (0, 0))) _)
  have E2 : Ext w (((w.alloc (.cells #[pv p] 25 (0, 0))).alloc (.cells #[vN n] 9 (0, 0))).alloc (.cells #[u] 32 (0, 0))) := E1.trans (Ext.alloc ((w.alloc (.cells #[pv p] 25 (0, 0))).alloc (.cells #[vN n] 9 (0, 0))) _)
  have b0 := ((Bx.new w (pv p) 25).ext (Ext.alloc (w.alloc (.cells #[pv p] 25 (0, 0))) (.cells #[vN n] 9 (0, 0)))).ext (Ext.alloc ((w.alloc (.cells #[pv p] 25 (0, 0))).alloc (.cells #[vN n] 9 (0, 0))) (.cells #[u] 32 (0, 0)))
  have b1 := (Bx.new (w.alloc (.cells #[pv p] 25 (0, 0))) (vN n) 9).ext (Ext.alloc ((w.alloc (.cells #[pv p] 25 (0, 0))).alloc (.cells #[vN n] 9 (0, 0))) (.cells #[u] 32 (0, 0)))
  simp only [World.size_alloc] at b1
  have b2 := Bx.new ((w.alloc (.cells #[pv p] 25 (0, 0))).alloc (.cells #[vN n] 9 (0, 0))) (u) 32
  simp only [World.size_alloc] at b2
  have HE := hid E2
  have H := hid (h.ext E2)
  have HG := hid hg
  have HU := hid (hu.ext E2)
  have HB := hid hB
  obtain ⟨W0, hW0⟩ : ∃ W0, (((w.alloc (.cells #[pv p] 25 (0, 0))).alloc (.cells #[vN n] 9 (0, 0))).alloc (.cells #[u] 32 (0, 0))) = W0 := ⟨_, rfl⟩
  rw [hW0] at HE H HU b0 b1 b2
  have HB0 := hid b0
  have HB1 := hid b1
  have HB2 := hid b2
  have c0 := b0.cell
  clear h hg E0 b0 E1 b1 E2 b2
  go_enter Try.func24, Try.ntmps24
  rw [← hW0] at c0
  go_wp2_with fail
  rw [← hue, hW0]
  clear hW0 c0
  obtain ⟨a, ha⟩ : ∃ a, w.heap.size = a := ⟨_, rfl⟩
  rw [ha] at HB0
  rw [ha] at HB1
  rw [ha] at HB2
  rw [ha]
  obtain ⟨bq, hbq⟩ : ∃ bq, a + 1 = bq := ⟨_, rfl⟩
  rw [hbq] at HB1
  rw [hbq] at HB2
  rw [hbq]
  obtain ⟨c, hc⟩ : ∃ c, bq + 1 = c := ⟨_, rfl⟩
  rw [hc] at HB2
  rw [hc]
  have n0 : a ≠ p := fun e => by have := HB0.out; rw [e] at this; have h2 := H.out.hd; unfold Bx at this; rw [this] at h2; simp at h2
  have n1 : bq ≠ p := fun e => by have := HB1.out; rw [e] at this; have h2 := H.out.hd; unfold Bx at this; rw [this] at h2; simp at h2
  have n2 : c ≠ p := fun e => by have := HB2.out; rw [e] at this; have h2 := H.out.hd; unfold Bx at this; rw [this] at h2; simp at h2
  refine (ddo_any H.out (Nat.le_trans HB.out HE.out.size) 51 52 #[bp a, bp bq, bp c] #[bp a, bp bq, bp c] enter51 enter52 (appE s n b) (fun s => { s with files := setF s.files (look s.dir n) fun x => (x.1 ++ b, x.2) })
    (fun _ w' k => app1_any n b u hk (H.out.ext k) a bq c (HB0.out.ext k) (HB1.out.ext k) (HB2.out.ext k) (HU.out.ext k))
    (fun h1 h2 h3 w' hD hF hbw => ?_)).mono ?_
  · have hdone := doP_done (act := (fun s => { s with files := setF s.files (look s.dir n) fun x => (x.1 ++ b, x.2) })) h1 h2 h3
    have hgd : Gd (((fun s => { s with files := setF s.files (look s.dir n) fun x => (x.1 ++ b, x.2) })) (fusS s)) := by have := HG.out; unfold appP at this; rw [hdone] at this; exact this
    have hB2 := Nat.le_trans (Nat.le_trans HB.out HE.out.size) hF.size
    have x0 := HB0.out.fr hF (by simpa using n0)
    have x1 := HB1.out.fr hF (by simpa using n1)
    have x2 := HB2.out.fr hF (by simpa using n2)
    obtain ⟨f, hf⟩ : ∃ f, look s.dir n = some f := by
      cases hq : look s.dir n with
      | some f => exact ⟨f, rfl⟩
      | none => exact absurd h2 (by unfold appE; rw [if_pos hq]; decide)
    have hact : ({ fusS s with files := setF (fusS s).files (look (fusS s).dir n) fun x => (x.1 ++ b, x.2) } : PS) = FilS (fusS s) f fun y => (y.1 ++ b, y.2) := by
      show ({ fusS s with files := setF s.files (look s.dir n) fun x => (x.1 ++ b, x.2) } : PS) = _
      rw [hf]; rfl
    have hgd2 : Gd (FilS (fusS s) f fun y => (y.1 ++ b, y.2)) := by rw [← hact]; exact hgd
    rw [hact]
    exact app2_any n b u hk hD a bq c x0 x1 x2 (Byt.frp HU.out H.out hF) hB2 f hf hgd2 hbl
  · rintro e w2 ⟨rfl, h2⟩
    have HS : Hid (DoR B w p x (appP s n b) _ w2) := hid (DoR.ext ⟨rfl, h2⟩ HE.out HB.out)
    clear h2
    go_wp2
    go_ret
    exact HS.out
end Go.Proofs.Ytkaafllbmeppnaa
