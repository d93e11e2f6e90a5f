/- The document's disk: Delete.
The document's disk in memory; may.
The document's disk: can, now, may.
The document's disk: find, may.
The document's disk: may.
The document's disk: Read.
The document's disk: Names.
The document's disk: without.
The document's disk: DirSync.
The document's disk: Delete. -/
import Derived.Test.YtijpokajhjhllaaGreatDoorDskLm
import Derived.Test.YtijpokajhjhllaaGreatDoorDskSm
set_option linter.unusedSimpArgs false
set_option linter.unusedVariables false
namespace Go.Proofs.YtijpokajhjhllaaGreatDoor
open Go Go.RowKit Go.Tum Go.ChangeMaps

abbrev nilV : Value := .slice none 0 0
/-- Where it lies: the row of files, the row of directories, the bytes of each file, each directory. -/
structure RX where
  vf : Value
  vd : Value
  fv : List Value
  dv : List Value
abbrev rdiskO (x : RX) (s : PS) : Obj := .cells #[.int .i64 (s.room : Int), x.vf, x.vd, .int .i64 s.fuse, .bool s.down] 65 (0, 0)
abbrev ecells (z : Nm × Nat) : List Value := [vN z.1, .int .i64 (z.2 : Int)]
abbrev rfcells (p : (List UInt8 × Nat) × Value) : List Value := [p.2, .int .i64 (p.1.2 : Int)]
structure RD (B : Nat) (w : World) (r : Nat) (x : RX) (s : PS) : Prop where
  hd : w.heap[r]? = some (rdiskO x s)
  fn : x.fv.length = s.files.length
  fr : w.ownsRow B 98 2 x.vf s.files.length ((s.files.zip x.fv).flatMap rfcells)
  fb : ∀ i (h : i < s.files.length), Own w B 5 (x.fv.getD i nilV) s.files[i].1
  dn : x.dv.length = s.opn.length + 1
  dr : w.ownsRow B 72 1 x.vd x.dv.length x.dv
  dd : ∀ k, k ≤ s.opn.length → w.ownsRow B 100 2 (x.dv.getD k nilV) (dirAt s.sure (s.opn.take k)).length ((dirAt s.sure (s.opn.take k)).flatMap ecells)
  lo : B ≤ r
theorem RD.ext {B : Nat} {w w' : World} {r : Nat} {x : RX} {s : PS} (h : RD B w r x s) (k : Ext w w') : RD B w' r x s :=
  ⟨k.obj h.hd, h.fn, k.owns h.fr, fun i hi => (h.fb i hi).ext k, h.dn, k.owns h.dr, fun j hj => k.owns (h.dd j hj), h.lo⟩
theorem lk5 {w : World} {b : Nat} {v0 v1 v2 v3 v4 : Value} {ty : TypeId} (h : w.heap[b]? = some (.cells #[v0, v1, v2, v3, v4] ty (0, 0))) :
    (w.cell? ⟨b, 0, none⟩ = some v0 ∧ w.cell? ⟨b, 1, none⟩ = some v1 ∧ w.cell? ⟨b, 2, none⟩ = some v2 ∧ w.cell? ⟨b, 3, none⟩ = some v3 ∧ w.cell? ⟨b, 4, none⟩ = some v4) ∧ (∀ i, w.frozen? ⟨b, i, none⟩ = false) := by
  refine ⟨⟨by rw [cell_of_row _ _ _ _ _ _ h]; rfl, by rw [cell_of_row _ _ _ _ _ _ h]; rfl, by rw [cell_of_row _ _ _ _ _ _ h]; rfl, by rw [cell_of_row _ _ _ _ _ _ h]; rfl, by rw [cell_of_row _ _ _ _ _ _ h]; rfl⟩, fun i => by simp [World.frozen?, h]⟩

/-- Its own block alone has turned: no more than room, fuse, power. -/
theorem RD.head {B : Nat} {w w' : World} {r : Nat} {x : RX} {s : PS} (h : RD B w r x s) (f : Fr [r] w w') (fu : Int) (dw : Bool) (hd : w'.heap[r]? = some (rdiskO x { s with fuse := fu, down := dw })) : RD B w' r x { s with fuse := fu, down := dw } := by
  have hs : ∀ e, e ≠ 65 → ∀ q ∈ [r], ∃ o, w.heap[q]? = some o ∧ ∀ cs, o ≠ .cells cs e (0, 0) := by
    intro e he q hq
    simp at hq; subst hq
    exact ⟨_, h.hd, fun cs hc => he (by simp at hc; exact hc.2.symm)⟩
  exact ⟨hd, h.fn, ownsRow_fr2 h.fr f (hs _ (by decide)), fun i hi => ownsRow_fr2 (h.fb i hi) f (hs _ (by decide)), h.dn, ownsRow_fr2 h.dr f (hs _ (by decide)), fun k hk => ownsRow_fr2 (h.dd k hk) f (hs _ (by decide)), h.lo⟩
theorem block_set5 {w : World} {b : Nat} {cs : Array Value} {ty : TypeId} (h : w.heap[b]? = some (.cells cs ty (0, 0))) (i : Nat) (u : Value) : (w.setCell ⟨b, i, none⟩ u).heap[b]? = some (.cells (cs.setIfInBounds i u) ty (0, 0)) := by
  simpa using Go.Joins.block_setCell (i := i) h u
def RNewP (B : Nat) (w : World) (room : Int) (e : Ending) (w' : World) : Prop :=
  (room < 16 ∨ 1048576 < room → e = .returned (.tuple #[.pointer none, .int .i64 1]) ∧ Ext w w') ∧
  (16 ≤ room → room ≤ 1048576 → ∃ r x, e = .returned (.tuple #[pv r, .int .i64 0]) ∧ RD B w' r x (newP room.toNat) ∧ Ext w w' ∧ w.heap.size ≤ r)
set_option maxHeartbeats 1000000 in
theorem rnew_any (w : World) (B : Nat) (hB : B ≤ w.heap.size) (room : Int) :
    Calls Tryz.prog 6 #[.int .i64 room] w fun e w' => RNewP B w room e w' := by
  by_cases h1 : room < 16
  · have e1 : decide (room < 16) = true := by simpa using h1
    have H1 := hid h1
    clear h1
    go_enter Tryz.func6, Tryz.ntmps6
    go_wp2
    go_returns
    refine ⟨fun _ => ⟨rfl, Ext.refl _⟩, fun h => ?_⟩
    have := H1.out; omega
  · have e1 : decide (room < 16) = false := by simpa using h1
    by_cases h2 : 1048576 < room
    · have e2 : decide (1048576 < room) = true := by simpa using h2
      have H2 := hid h2
      clear h1 h2
      go_enter Tryz.func6, Tryz.ntmps6
      go_wp2
      go_returns
      refine ⟨fun _ => ⟨rfl, Ext.refl _⟩, fun _ h => ?_⟩
      have := H2.out; omega
    · have e2 : decide (1048576 < room) = false := by simp; omega
      have H1 := hid h1
      have H2 := hid h2
      clear h1 h2
      go_enter Tryz.func6, Tryz.ntmps6
      go_wp2
      go_returns
      refine ⟨fun h => ?_, fun h16 hmx => ?_⟩
      · have := H1.out; have := H2.out; omega
      · have o1 := World.ownsRow_lit (base := B) (e := 100) (size := 2) w #[] 0 hB (by simp [maxLen]) (by simp)
        have o2 := World.ownsRow_lit (base := B) (e := 72) (size := 1) (w.alloc (.cells #[] 100)) #[.slice (some ⟨w.heap.size, 0, none⟩) 0 0] 1 (by simp; omega) (by simp [maxLen]) (by simp)
        rw [World.size_alloc] at o2
        have hr : ((room.toNat : Nat) : Int) = room := by omega
        have k2 := Ext.alloc (w.alloc (.cells #[] 100)) (.cells #[.slice (some ⟨w.heap.size, 0, none⟩) 0 0] 72)
        refine ⟨w.heap.size + 1 + 1, ⟨nilV, .slice (some ⟨w.heap.size + 1, 0, none⟩) 1 1, [], [.slice (some ⟨w.heap.size, 0, none⟩) 0 0]⟩, rfl, ?_, ?_, by omega⟩
        · refine ⟨?_, rfl, World.ownsRow_nil _ _ _ _, fun i hi => absurd hi (by simp [newP]), rfl, ?_, fun k hk => ?_, by omega⟩
          · have := heap_alloc_new ((w.alloc (.cells #[] 100)).alloc (.cells #[.slice (some ⟨w.heap.size, 0, none⟩) 0 0] 72)) (.cells #[.int .i64 room, .slice none 0 0, .slice (some ⟨w.heap.size + 1, 0, none⟩) 1 1, .int .i64 (-1), .bool false] 65 (0, 0))
            rw [World.size_alloc, World.size_alloc] at this
            unfold rdiskO newP
            simp only [hr]
            exact this
          · exact (Ext.alloc _ _).owns o2
          · obtain rfl : k = 0 := by simpa [newP] using hk
            exact (Ext.alloc _ _).owns (k2.owns o1)
        · exact ((Ext.alloc _ _).trans (Ext.alloc _ _)).trans (Ext.alloc _ _)
theorem rfuse_any {B : Nat} {w : World} {r : Nat} {x : RX} {s : PS} (n : Int) (h : RD B w r x s) :
    Calls Tryz.prog 13 #[pv r, .int .i64 n] w fun e w' => (∃ u, e = .returned u) ∧ RD B w' r x (fusP s n) ∧ Fr [r] w w' := by
  obtain ⟨⟨-, -, -, c3, -⟩, ff⟩ := lk5 h.hd
  have f3 := ff 3
  have hmx : (if n < -1 then (-1 : Int) else n) = max n (-1) := by split <;> omega
  have F : Fr [r] w (w.setCell ⟨r, 3, none⟩ (.int .i64 (max n (-1)))) := fr_setCell w _ _ (by simp)
  have HS : Hid (RD B (w.setCell ⟨r, 3, none⟩ (.int .i64 (max n (-1)))) r x (fusP s n) ∧ Fr [r] w (w.setCell ⟨r, 3, none⟩ (.int .i64 (max n (-1))))) := hid ⟨h.head F (max n (-1)) s.down (block_set5 h.hd 3 _), F⟩
  clear h ff F
  by_cases hlt : n < -1
  · have e : max n (-1) = -1 := by omega
    rw [e] at HS hmx
    go_enter Tryz.func13, Tryz.ntmps13
    go_wp2
    go_returns
    exact ⟨⟨_, rfl⟩, HS.out⟩
  · have e : max n (-1) = n := by omega
    rw [e] at HS hmx
    go_enter Tryz.func13, Tryz.ntmps13
    go_wp2
    go_returns
    exact ⟨⟨_, rfl⟩, HS.out⟩
/-- What comes of a call that has an error, if any. -/
def canP (s : PS) (e : Nat) : Nat × PS := doP s e id
end Go.Proofs.YtijpokajhjhllaaGreatDoor

set_option linter.unusedSimpArgs false
set_option linter.unusedVariables false
namespace Go.Proofs.YtijpokajhjhllaaGreatDoor
open Go Go.RowKit Go.Tum Go.ChangeMaps

def CanP (B : Nat) (w : World) (r : Nat) (x : RX) (c : Nat × PS) (e : Ending) (w' : World) : Prop := e = .returned (.int .i64 (c.1 : Nat)) ∧ RD B w' r x c.2 ∧ Fr [r] w w'
set_option maxHeartbeats 1000000 in
theorem rcan_any {B : Nat} {w : World} {r : Nat} {x : RX} {s : PS} (er : Nat) (h : RD B w r x s) (hfu : -1 ≤ s.fuse ∧ s.fuse ≤ 9223372036854775807) :
    Calls Tryz.prog 62 #[pv r, .int .i64 (er : Int)] w fun e w' => CanP B w r x (canP s er) e w' := by
  obtain ⟨⟨-, -, -, c3, c4⟩, ff⟩ := lk5 h.hd
  have f3 := ff 3
  have f4 := ff 4
  have H := hid h
  have HF := hid hfu
  unfold CanP canP doP
  clear ff h
  obtain ⟨dw, hdw⟩ : ∃ d, s.down = d := ⟨_, rfl⟩
  obtain ⟨fu, hfe⟩ : ∃ f, s.fuse = f := ⟨_, rfl⟩
  have HDW := hid hdw
  have HFE := hid hfe
  rw [hdw] at c4 ⊢
  rw [hfe] at c3 hfu
  clear hdw hfe
  cases dw
  case true =>
    go_enter Tryz.func62, Tryz.ntmps62
    go_wp2
    go_ret
    exact ⟨rfl, H.out, Fr.refl _ _⟩
  by_cases he : er = 0
  case neg =>
    have bn : ((er : Int) != 0) = true := by simp; omega
    rw [if_neg (by simp), if_pos he]
    clear he
    go_enter Tryz.func62, Tryz.ntmps62
    go_wp2
    go_ret
    exact ⟨rfl, H.out, Fr.refl _ _⟩
  subst he
  rw [if_neg (by simp), if_neg (by simp)]
  by_cases hz : fu = 0
  · have F : Fr [r] w (w.setCell ⟨r, 4, none⟩ (.bool true)) := fr_setCell w _ _ (by simp)
    have HS : Hid (RD B (w.setCell ⟨r, 4, none⟩ (.bool true)) r x { s with down := true } ∧ Fr [r] w (w.setCell ⟨r, 4, none⟩ (.bool true))) := hid ⟨H.out.head F s.fuse true (block_set5 H.out.hd 4 _), F⟩
    rw [if_pos (by rw [HFE.out]; exact hz)]
    subst hz
    clear F hfu
    go_enter Tryz.func62, Tryz.ntmps62
    go_wp2
    go_ret
    exact ⟨rfl, HS.out⟩
  · have bz : (fu == 0) = false := by simpa using hz
    rw [if_neg (by rw [HFE.out]; exact hz)]
    by_cases hp : 0 < fu
    · have F : Fr [r] w (w.setCell ⟨r, 3, none⟩ (.int .i64 (fu - 1))) := fr_setCell w _ _ (by simp)
      have HS : Hid (RD B (w.setCell ⟨r, 3, none⟩ (.int .i64 (fu - 1))) r x { s with fuse := fu - 1 } ∧ Fr [r] w (w.setCell ⟨r, 3, none⟩ (.int .i64 (fu - 1)))) := hid ⟨H.out.head F (fu - 1) s.down (block_set5 H.out.hd 3 _), F⟩
      have dp : decide (0 < fu) = true := by simpa using hp
      have hwr : IntKind.i64.wrap (fu - 1) = fu - 1 := IntWalk.i64_in _ (by omega)
      rw [HFE.out, if_pos hp]
      clear F hz hp
      go_enter Tryz.func62, Tryz.ntmps62
      go_wp2
      go_ret
      have h9 := HS.out
      rw [HDW.out] at h9
      exact ⟨rfl, h9⟩
    · have dp : decide (0 < fu) = false := by simpa using hp
      rw [HFE.out, if_neg hp]
      clear hz hp
      go_enter Tryz.func62, Tryz.ntmps62
      go_wp2
      go_ret
      refine ⟨rfl, ?_, Fr.refl _ _⟩
      have := H.out
      rw [← HFE.out, ← HDW.out]
      exact this
/-- The directory. -/
theorem rnow_any {B : Nat} {w : World} {r : Nat} {x : RX} {s : PS} (h : RD B w r x s) :
    Calls Tryz.prog 54 #[pv r] w fun e w' => (∃ v, e = .returned v ∧ w'.ownsRow B 100 2 v s.dir.length (s.dir.flatMap ecells)) ∧ Ext w w' := by
  obtain ⟨⟨-, -, c2, -, -⟩, -⟩ := lk5 h.hd
  have hd := h.dd s.opn.length (Nat.le_refl _)
  rw [List.take_length] at hd
  have HD : Hid (w.ownsRow B 100 2 (x.dv.getD s.opn.length nilV) s.dir.length (s.dir.flatMap ecells)) := hid hd
  obtain ⟨dv, hdv⟩ : ∃ v, x.dv.getD s.opn.length nilV = v := ⟨_, rfl⟩
  have hrow : OwV id w B 72 x.vd x.dv := by unfold OwV; simpa using h.dr
  obtain ⟨ao, cap, hv, hle, hm, hnn, hcell⟩ := hrow.vec.open
  have hn := h.dn
  have hlt : s.opn.length < x.dv.length := by omega
  obtain ⟨a, rfl⟩ := hnn (by omega)
  have cc := hcell a rfl s.opn.length hlt
  have e1 : x.dv[s.opn.length] = dv := by rw [← hdv, List.getD_eq_getElem?_getD, List.getElem?_eq_getElem hlt]; rfl
  rw [e1] at cc
  rw [hdv] at HD
  have hone : ∃ o n c, dv = .slice o n c := by
    rcases HD.out.2 with ⟨q, -⟩ | ⟨g, cp, cur, q, -⟩
    · exact ⟨_, _, _, q⟩
    · exact ⟨_, _, _, q⟩
  obtain ⟨o, n, c, rfl⟩ := hone
  rw [hv] at c2
  obtain ⟨k, hk⟩ : ∃ k, s.opn.length = k := ⟨_, rfl⟩
  have hlen : x.dv.length = k + 1 := by omega
  rw [hlen] at c2
  rw [hk] at cc
  have hbound : k + 1 ≤ 9223372036854775807 := by omega
  have hwr : IntKind.i64.wrap (k : Int) = (k : Int) := IntWalk.i64_in _ (by omega)
  have h0 : (k : Int) < (k : Int) + 1 := by omega
  have cc2 : w.cell? (a.add k) = some (.slice o n c) := cc
  clear h hd hdv hrow hv hle hm hnn hcell hn hlt e1 hk hlen cc
  go_enter Tryz.func54, Tryz.ntmps54
  go_wp2
  go_quiet (fail)
  go_wp2
  go_ret
  exact ⟨⟨_, rfl, (Ext.drewN _ _).owns HD.out⟩, Ext.drewN _ _⟩
end Go.Proofs.YtijpokajhjhllaaGreatDoor

set_option linter.unusedSimpArgs false
set_option linter.unusedVariables false
namespace Go.Proofs.YtijpokajhjhllaaGreatDoor
open Go Go.RowKit Go.Tum Go.ChangeMaps

def findD (d : Dir) (n : Nm) : Int := match look d n with
  | none => -1
  | some f => (f : Int)
theorem look_take_none {d : Dir} {n : Nm} {k : Nat} (h : look (d.take k) n = none) (hk : k < d.length) : look (d.take (k + 1)) n = if n = d[k].1 then some d[k].2 else none := by
  rw [List.take_succ_eq_append_getElem hk, look_append, h]
  show look [d[k]] n = _
  obtain ⟨q, hq⟩ : ∃ q, d[k] = q := ⟨_, rfl⟩
  rw [hq]
  obtain ⟨a, b⟩ := q
  rw [look_cons]
  rfl
theorem look_at_first {d : Dir} {n : Nm} {k : Nat} (h : look (d.take k) n = none) (hk : k < d.length) (e : n = d[k].1) : look d n = some d[k].2 := by
  have h1 := look_take_none h hk
  rw [if_pos e] at h1
  have h2 : look d n = look (d.take (k + 1) ++ d.drop (k + 1)) n := by rw [List.take_append_drop]
  rw [h2, look_append, h1]
  rfl
set_option maxHeartbeats 1000000 in
theorem rfind_any {B : Nat} {w : World} {r : Nat} {x : RX} {s : PS} (n : Nm) (h : RD B w r x s) :
    Calls Tryz.prog 61 #[pv r, vN n] w fun e w' => e = .returned (.int .i64 (findD s.dir n)) ∧ Ext w w' := by
  have H := hid h
  clear h
  obtain ⟨d, hd⟩ : ∃ d, s.dir = d := ⟨_, rfl⟩
  rw [hd]
  have HDD := hid hd
  clear hd
  go_enter Tryz.func61, Tryz.ntmps61
  go_wp2_with fail
  refine (rnow_any H.out).mono ?_
  rintro e w1 ⟨⟨v, rfl, ho⟩, hE⟩
  have HE := hid hE
  rw [HDD.out] at ho
  have hrow : RowsOf w1 2 v ecells d := ⟨fun _ _ => rfl, Sl.of_owns ho⟩
  obtain ⟨ao, cap, rfl, hle, hm, hnn, hcell⟩ := hrow.open
  have HC := hid hcell
  have HNN := hid hnn
  clear hrow hnn hcell ho hE H
  go_wp2
  go_loopw [6] (fun i wr => ∃ k : Nat, k ≤ d.length ∧ i = .int .i64 k ∧ Hid (look (d.take k) n = none) ∧ wr = w1) (fun i _ => d.length - (intOf i).toNat)
  case atStart => exact ⟨0, by omega, rfl, hid rfl, rfl⟩
  case round =>
    obtain ⟨k, hk, rfl, HL, rfl⟩ := hrel
    by_cases hlt : k < d.length
    · obtain ⟨a, rfl⟩ := HNN.out (by omega)
      have c0 := cell_first (HC.out a rfl k hlt 0 _ rfl)
      have c1 := cell_next (HC.out a rfl k hlt 1 _ rfl) (by decide)
      have hi1 : (k : Int) < d.length := by omega
      by_cases he : d[k].1 = n
      · have hb : (d[k].1 == n) = true := by simpa using he
        have HF : Hid (findD d n = (d[k].2 : Int)) := hid (by unfold findD; rw [look_at_first HL.out hlt he.symm])
        obtain ⟨q, hq⟩ : ∃ q, d[k] = q := ⟨_, rfl⟩
        rw [hq] at hb HF c0 c1
        obtain ⟨q1, q2⟩ := q
        dsimp only at hb HF c0 c1
        clear hq he
        go_wp2
        go_ret
        exact ⟨by rw [HF.out]; rfl, HE.out⟩
      · have hb : (d[k].1 == n) = false := by simpa using he
        have HF : Hid (look (d.take (k + 1)) n = none) := hid (by rw [look_take_none HL.out hlt, if_neg (fun e => he e.symm)])
        obtain ⟨q, hq⟩ : ∃ q, d[k] = q := ⟨_, rfl⟩
        rw [hq] at hb c0 c1
        obtain ⟨q1, q2⟩ := q
        dsimp only at hb c0 c1
        clear hq he
        go_wp2
        go_roundw
        case rel => exact ⟨k + 1, by omega, by go_num, HF, trivial⟩
        case measure => simp [intOf]; omega
    · obtain rfl : k = d.length := by omega
      have HF : Hid (findD d n = -1) := hid (by have := HL.out; rw [List.take_length] at this; unfold findD; rw [this])
      go_wp2
      go_ret
      exact ⟨by rw [HF.out]; rfl, HE.out⟩
end Go.Proofs.YtijpokajhjhllaaGreatDoor

set_option linter.unusedSimpArgs false
set_option linter.unusedVariables false
namespace Go.Proofs.YtijpokajhjhllaaGreatDoor
open Go Go.RowKit Go.Tum Go.ChangeMaps

theorem nmOk_take {n : Nm} {k : Nat} (h : (n.take k).all okc = true) (hk : k < n.length) : (n.take (k + 1)).all okc = okc n[k] := by
  rw [List.take_succ_eq_append_getElem hk, List.all_append, h]
  simp
theorem nmOk_bad {n : Nm} {k : Nat} (hk : k < n.length) (h : okc n[k] = false) : nmOk n = false := by
  rw [nmOk_eq]
  have : n.all okc = false := by
    rw [List.all_eq_false]
    exact ⟨n[k], List.getElem_mem hk, by simp [h]⟩
  rw [this]
  simp
set_option maxHeartbeats 1000000 in
theorem rmay_any (n : Nm) (w : World) (hn : n.length ≤ maxLen) :
    Calls Tryz.prog 60 #[vN n] w fun e w' => e = .returned (.bool (nmOk n)) ∧ Ext w w' := by
  have hsz := str_size n
  go_enter Tryz.func60, Tryz.ntmps60
  go_wp2
  go_loopw [3] (fun i wr => ∃ k : Nat, k ≤ n.length ∧ i = .int .i64 k ∧ Hid ((n.take k).all okc = true) ∧ wr = w) (fun i _ => n.length - (intOf i).toNat)
  case atStart => exact ⟨0, by omega, rfl, hid rfl, rfl⟩
  case round =>
    obtain ⟨k, hk, rfl, HL, rfl⟩ := hrel
    by_cases hlt : k < n.length
    · have hi1 : decide ((k : Int) < (str n).size) = true := by rw [hsz]; simp; omega
      obtain ⟨c, hc⟩ : ∃ c, n[k] = c := ⟨_, rfl⟩
      have hok : okc c = decide (97 ≤ c.toNat ∧ c.toNat ≤ 122 ∨ 48 ≤ c.toNat ∧ c.toNat ≤ 57 ∨ c.toNat = 46) := rfl
      have hget : ∀ h : k < (str n).size, (str n)[k] = c := fun _ => hc
      have HT : Hid ((n.take (k + 1)).all okc = okc c) := hid ((nmOk_take HL.out hlt).trans (congrArg okc hc))
      have HB : Hid (okc c = false → nmOk n = false) := hid (fun h => nmOk_bad hlt ((congrArg okc hc).trans h))
      obtain ⟨z, hz⟩ : ∃ z : Int, ((c.toNat : Nat) : Int) = z := ⟨_, rfl⟩
      have hcase : z = 46 ∨ (z ≠ 46 ∧ 48 ≤ z ∧ z ≤ 57) ∨ (97 ≤ z ∧ z ≤ 122) ∨ (z < 48 ∧ z ≠ 46) ∨ (57 < z ∧ z < 97) ∨ 122 < z := by omega
      have HZ : Hid (okc c = decide (z = 46 ∨ (z ≠ 46 ∧ 48 ≤ z ∧ z ≤ 57) ∨ (97 ≤ z ∧ z ≤ 122))) := hid (by rw [hok, decide_eq_decide]; omega)
      have hbd : (k : Int) + 1 ≤ 9223372036854775807 := by simp only [maxLen] at hn; omega
      clear hok hc
      rcases hcase with h | h | h | h | h | h
      · have e46 : (z == 46) = true := by simp; omega
        have q48 : decide (48 ≤ z) = false := by simp; omega
        have q57 : decide (z ≤ 57) = true := by simp; omega
        have q97 : decide (97 ≤ z) = false := by simp; omega
        have q122 : decide (z ≤ 122) = true := by simp; omega
        have HK : Hid (okc c = true) := hid (by rw [HZ.out]; simp; omega)
        clear h
        go_wp2
        go_roundw
        case rel => exact ⟨k + 1, by omega, by go_num, hid (by rw [HT.out]; exact HK.out), trivial⟩
        case measure => simp [intOf]; omega
      · have e46 : (z == 46) = false := by simp; omega
        have q48 : decide (48 ≤ z) = true := by simp; omega
        have q57 : decide (z ≤ 57) = true := by simp; omega
        have q97 : decide (97 ≤ z) = false := by simp; omega
        have q122 : decide (z ≤ 122) = true := by simp; omega
        have HK : Hid (okc c = true) := hid (by rw [HZ.out]; simp; omega)
        clear h
        go_wp2
        go_roundw
        case rel => exact ⟨k + 1, by omega, by go_num, hid (by rw [HT.out]; exact HK.out), trivial⟩
        case measure => simp [intOf]; omega
      · have e46 : (z == 46) = false := by simp; omega
        have q48 : decide (48 ≤ z) = true := by simp; omega
        have q57 : decide (z ≤ 57) = false := by simp; omega
        have q97 : decide (97 ≤ z) = true := by simp; omega
        have q122 : decide (z ≤ 122) = true := by simp; omega
        have HK : Hid (okc c = true) := hid (by rw [HZ.out]; simp; omega)
        clear h
        go_wp2
        go_roundw
        case rel => exact ⟨k + 1, by omega, by go_num, hid (by rw [HT.out]; exact HK.out), trivial⟩
        case measure => simp [intOf]; omega
      · have e46 : (z == 46) = false := by simp; omega
        have q48 : decide (48 ≤ z) = false := by simp; omega
        have q57 : decide (z ≤ 57) = true := by simp; omega
        have q97 : decide (97 ≤ z) = false := by simp; omega
        have q122 : decide (z ≤ 122) = true := by simp; omega
        have HK : Hid (okc c = false) := hid (by rw [HZ.out]; simp; omega)
        clear h
        go_wp2
        go_ret
        exact ⟨by rw [HB.out HK.out]; rfl, Ext.refl _⟩
      · have e46 : (z == 46) = false := by simp; omega
        have q48 : decide (48 ≤ z) = true := by simp; omega
        have q57 : decide (z ≤ 57) = false := by simp; omega
        have q97 : decide (97 ≤ z) = false := by simp; omega
        have q122 : decide (z ≤ 122) = true := by simp; omega
        have HK : Hid (okc c = false) := hid (by rw [HZ.out]; simp; omega)
        clear h
        go_wp2
        go_ret
        exact ⟨by rw [HB.out HK.out]; rfl, Ext.refl _⟩
      · have e46 : (z == 46) = false := by simp; omega
        have q48 : decide (48 ≤ z) = true := by simp; omega
        have q57 : decide (z ≤ 57) = false := by simp; omega
        have q97 : decide (97 ≤ z) = true := by simp; omega
        have q122 : decide (z ≤ 122) = false := by simp; omega
        have HK : Hid (okc c = false) := hid (by rw [HZ.out]; simp; omega)
        clear h
        go_wp2
        go_ret
        exact ⟨by rw [HB.out HK.out]; rfl, Ext.refl _⟩
    · obtain rfl : k = n.length := by omega
      have HA : Hid (nmOk n = (decide (1 ≤ n.length) && decide (n.length ≤ 12))) := hid (by
        have := HL.out
        rw [List.take_length] at this
        rw [nmOk_eq, this, Bool.and_true])
      have hi1 : decide ((n.length : Int) < (str n).size) = false := by rw [hsz]; simp
      by_cases h1 : 1 ≤ n.length
      · by_cases h2 : n.length ≤ 12
        · have d1 : decide ((1 : Int) ≤ n.length) = true := by simp; omega
          have d2 : decide ((n.length : Int) ≤ 12) = true := by simp; omega
          have HN : Hid (nmOk n = true) := hid (by rw [HA.out]; simp; omega)
          clear h1 h2
          go_wp2
          go_ret
          exact ⟨by rw [HN.out]; rfl, Ext.refl _⟩
        · have d1 : decide ((1 : Int) ≤ n.length) = true := by simp; omega
          have d2 : decide ((n.length : Int) ≤ 12) = false := by simp; omega
          have HN : Hid (nmOk n = false) := hid (by rw [HA.out]; simp; omega)
          clear h1 h2
          go_wp2
          go_ret
          exact ⟨by rw [HN.out]; rfl, Ext.refl _⟩
      · have d1 : decide ((1 : Int) ≤ n.length) = false := by simp; omega
        have HN : Hid (nmOk n = false) := hid (by rw [HA.out]; simp; omega)
        clear h1
        go_wp2
        go_ret
        exact ⟨by rw [HN.out]; rfl, Ext.refl _⟩
end Go.Proofs.YtijpokajhjhllaaGreatDoor

set_option linter.unusedSimpArgs false
set_option linter.unusedVariables false
namespace Go.Proofs.YtijpokajhjhllaaGreatDoor
open Go Go.RowKit Go.Tum Go.ChangeMaps

set_option maxRecDepth 100000 in
set_option maxHeartbeats 1000000 in
theorem rread_any {B : Nat} {w : World} {r : Nat} {x : RX} {s : PS} (n : Nm) (h : RD B w r x s) (hw : WF s) :
    Calls Tryz.prog 48 #[pv r, vN n] w fun e w' => ReadP B w s n e w' := by
  obtain ⟨⟨-, -, -, -, c4⟩, -⟩ := lk5 h.hd
  obtain ⟨dw, hdw⟩ : ∃ d, s.down = d := ⟨_, rfl⟩
  have HDW := hid hdw
  have H := hid h
  have HW := hid hw
  rw [hdw] at c4
  clear hdw h hw
  cases dw
  case true =>
    have hE : Hid (rdE s n = 7) := hid (by simp [rdE, HDW.out])
    have hB : Hid (rdB s n = []) := hid (by simp [rdB, HDW.out])
    go_enter Tryz.func48, Tryz.ntmps48
    go_wp2
    go_returns
    unfold ReadP
    rw [hE.out, hB.out]
    exact ⟨⟨_, rfl, Own.nil _ _ _⟩, Ext.refl _⟩
  cases hlk : look s.dir n with
  | none =>
    have hE : Hid (rdE s n = 5) := hid (by simp [rdE, HDW.out, hlk])
    have hB : Hid (rdB s n = []) := hid (by simp [rdB, HDW.out, hlk])
    have hF : Hid (findD s.dir n = -1) := hid (by simp [findD, hlk])
    clear hlk
    go_enter Tryz.func48, Tryz.ntmps48
    go_wp2_with fail
    refine (rfind_any n H.out).mono ?_
    rintro e w1 ⟨rfl, hE1⟩
    rw [hF.out]
    have HE1 := hid hE1
    clear hE1
    go_wp2
    go_returns
    unfold ReadP
    rw [hE.out, hB.out]
    exact ⟨⟨_, rfl, Own.nil _ _ _⟩, HE1.out⟩
  | some f =>
    have hfl := (HW.out.gd.dnm (look_mem hlk)).2
    simp only at hfl
    have hE : Hid (rdE s n = 0) := hid (by simp [rdE, HDW.out, hlk])
    have hB : Hid (rdB s n = s.files[f].1) := hid (by simp [rdB, HDW.out, hlk, List.getD_eq_getElem?_getD, hfl])
    have hF : Hid (findD s.dir n = (f : Int)) := hid (by simp [findD, hlk])
    have hsz := (HW.out.fl s.files[f] (List.getElem_mem hfl)).2
    have HFL := hid hfl
    have HSZ := hid hsz
    clear hlk hsz
    go_enter Tryz.func48, Tryz.ntmps48
    go_wp2_with fail
    refine (rfind_any n H.out).mono ?_
    rintro e w1 ⟨rfl, hE1⟩
    rw [hF.out]
    have HE1 := hid hE1
    have h1 := H.out.ext hE1
    obtain ⟨⟨-, d1, -, -, -⟩, -⟩ := lk5 h1.hd
    have hzl : (s.files.zip x.fv).length = s.files.length := by rw [List.length_zip, h1.fn, Nat.min_self]
    have hrow : RowsOf w1 2 x.vf rfcells (s.files.zip x.fv) := ⟨fun _ _ => rfl, by rw [hzl]; exact Sl.of_owns h1.fr⟩
    obtain ⟨ao, cap, hv, hle, hm, hnn, hcell⟩ := hrow.open
    rw [hzl] at hv hle
    obtain ⟨a, rfl⟩ := hnn (by omega)
    have c0 := cell_first (hcell a rfl f (by rw [hzl]; exact hfl) 0 _ rfl)
    have hfv : f < x.fv.length := by rw [h1.fn]; exact hfl
    have hbt := (h1.fb f hfl).byt
    have e1 : x.fv.getD f nilV = x.fv[f] := by rw [List.getD_eq_getElem?_getD, List.getElem?_eq_getElem hfv]; rfl
    rw [e1] at hbt
    have e2 : (s.files.zip x.fv)[f]'(by rw [hzl]; exact hfl) = (s.files[f], x.fv[f]) := List.getElem_zip
    have c0' : w1.cell? (a.add (f * 2)) = some x.fv[f] := by rw [c0, e2]
    rw [hv] at d1
    obtain ⟨fv, hfve⟩ : ∃ v, x.fv[f] = v := ⟨_, rfl⟩
    obtain ⟨fb, hfbe⟩ : ∃ b, s.files[f].1 = b := ⟨_, rfl⟩
    rw [hfve] at hbt
    replace hbt : Byt w1 fv fb := by rw [← hfbe]; exact hbt
    rw [hfve] at c0'
    have HSZ2 : Hid (fb.length ≤ 1048576) := hid (by rw [← hfbe]; exact HSZ.out)
    have hB2 : Hid (rdB s n = fb) := hid (by rw [hB.out]; exact hfbe)
    obtain ⟨bo, bc, rfl, -⟩ := hbt.open
    have HBT := hid hbt
    obtain ⟨fl, hfle⟩ : ∃ l, s.files.length = l := ⟨_, rfl⟩
    rw [hfle] at d1 hfl
    have hi1 : (f : Int) < fl := by omega
    have d1a : ∀ o : Obj, (w1.alloc o).cell? ⟨r, 1, none⟩ = some (.slice (some a) fl cap) := fun o => (Ext.alloc w1 o).cell d1
    have c0a : ∀ o : Obj, (w1.alloc o).cell? (a.add (f * 2)) = some (.slice bo fb.length bc) := fun o => (Ext.alloc w1 o).cell c0'
    clear hE1 h1 hzl hrow hv hle hm hnn hcell c0 hfv e1 e2 hfve hfbe hbt hfle
    go_wp2_with (at_builtin; refine wpList_append_byt rfl (.tmp 16) (.tmp 24) 37 rfl w1.heap.size 5 Tryz.underlying37 infoU8 rfl (own_lit w1 w1.heap.size 5 [] #[] rfl 0 rfl (Nat.le_refl _) (by simp [maxLen])) rfl (HBT.out.ext (Ext.alloc _ _)) fb.length (by simp) (by have := HSZ2.out; omega) (by simp) ?_; intro ao2 cap2 w2 hO2 hg2 hb2; have HO2 := hid hO2; have HE2 : Hid (Ext w1 w2) := hid (Below.trans (Ext.alloc _ _) hb2); clear hO2 hg2 hb2)
    go_returns
    unfold ReadP
    rw [hE.out, hB2.out]
    have h9 := HO2.out.mono HE1.out.size
    exact ⟨⟨_, rfl, by simpa using h9⟩, HE1.out.trans HE2.out⟩
end Go.Proofs.YtijpokajhjhllaaGreatDoor

set_option linter.unusedSimpArgs false
set_option linter.unusedVariables false
namespace Go.Proofs.YtijpokajhjhllaaGreatDoor
open Go Go.RowKit Go.Tum Go.ChangeMaps

set_option maxRecDepth 100000 in
set_option maxHeartbeats 1000000 in
theorem rnames_any {B : Nat} {w : World} {r : Nat} {x : RX} {s : PS} (h : RD B w r x s) (hl : s.dir.length ≤ 60) :
    Calls Tryz.prog 29 #[pv r] w fun e w' => NamsP w (s.dir.map Prod.fst) e w' := by
  have H := hid h
  clear h
  obtain ⟨d, hd⟩ : ∃ d, s.dir = d := ⟨_, rfl⟩
  rw [hd] at hl ⊢
  have HDD := hid hd
  have HLE := hid hl
  clear hd hl
  have E0 : Ext w (w.alloc (.cells #[] 9)) := Ext.alloc _ _
  have HE0 := hid E0
  have HO0 := hid (owv_lit (f := vN) w w.heap.size 9 [] #[] rfl 0 rfl (Nat.le_refl _) (by simp [maxLen]))
  go_enter Tryz.func29, Tryz.ntmps29
  go_wp2_with fail
  refine (rnow_any (H.out.ext E0)).mono ?_
  rintro e w1 ⟨⟨v, rfl, ho⟩, hE⟩
  rw [HDD.out] at ho
  have HE := hid (E0.trans hE)
  have HO1 := hid (HO0.out.ext hE)
  have hrow : RowsOf w1 2 v ecells d := ⟨fun _ _ => rfl, Sl.of_owns ho⟩
  obtain ⟨ao, cap, rfl, hle, hm, hnn, hcell⟩ := hrow.open
  have HC := hid ho
  have HNN := hid hnn
  clear hrow hnn hcell ho hE H E0 HE0 HO0
  go_wp2
  go_loopw [3, 5] (fun t i wr => ∃ (k : Nat) (go : Option Addr) (gc : Nat), k ≤ d.length ∧ i = .int .i64 k ∧ t = .slice go k gc ∧ Hid (OwV vN wr w.heap.size 9 (.slice go k gc) ((d.take k).map Prod.fst)) ∧ Hid (Ext w wr) ∧ Hid (wr.ownsRow B 100 2 (.slice ao d.length cap) d.length (d.flatMap ecells))) (fun t i _ => d.length - (intOf i).toNat)
  case atStart => exact ⟨0, _, _, by omega, rfl, rfl, HO1, HE, HC⟩
  case round =>
    clear HC
    obtain ⟨k, go, gc, hk, rfl, rfl, HO, HEr, HC⟩ := hrel
    by_cases hlt : k < d.length
    · obtain ⟨a, rfl⟩ := HNN.out (by omega)
      have hrow : RowsOf wr 2 (.slice (some a) d.length cap) ecells d := ⟨fun _ _ => rfl, Sl.of_owns HC.out⟩
      obtain ⟨-, -, -, -, hcell⟩ := hrow.opens
      have c0 := cell_first (hcell a rfl k hlt 0 _ rfl)
      have hi1 : (k : Int) < d.length := by omega
      obtain ⟨nm, hnm⟩ : ∃ nm, d[k].1 = nm := ⟨_, rfl⟩
      replace c0 : wr.cell? (a.add (k * 2)) = some (vN nm) := by rw [← hnm]; exact c0
      have hnext : (d.take (k + 1)).map Prod.fst = (d.take k).map Prod.fst ++ [nm] := by
        rw [List.take_succ_eq_append_getElem hlt, List.map_append]
        simp [hnm]
      have HNX := hid hnext
      have hcap := HLE.out
      clear hnext hnm hrow hcell
      go_wp2_with (at_builtin; refine wpList_append_vec vN_one rfl (.tmp 15) (.tmp 21) 59 rfl w.heap.size 9 Tryz.underlying59 infoStr rfl rfl (HO.out.ext (Ext.alloc _ _)) rfl (Vec.one _ _ _ nm rfl) (k + 1) (by simp; omega) (by omega) (by omega) (Nat.le_trans HEr.out.size (by simp)) ?_; intro ao3 cap3 w3 hO3 hg3 hb3; have HO3 := hid hO3; have HE3 : Hid (Ext w w3) := hid (Below.trans (HEr.out.trans (Ext.alloc _ _)) hb3); have HF3 : Hid (Fr (oB (.slice go k gc)) (wr.alloc (.cells #[vN nm] 9)) w3) := hid (fr_grown hg3 hb3); clear hO3 hg3 hb3)
      have HC3 : Hid (w3.ownsRow B 100 2 (.slice (some a) d.length cap) d.length (d.flatMap ecells)) := hid (ownsRow_fr2 ((Ext.alloc wr (.cells #[vN nm] 9)).owns HC.out) HF3.out (fun q hq => by
        have ho := (HO.out.ext (Ext.alloc wr (.cells #[vN nm] 9)))
        rcases ho.2 with ⟨hv, -⟩ | ⟨g, cp, cur, hv, hb, hg, -⟩
        · rw [hv] at hq; simp [oB, Value.ownBlock] at hq
        · rw [hv] at hq; simp [oB, Value.ownBlock] at hq; subst hq
          exact ⟨_, hg, fun cs hc => by simp at hc⟩))
      go_roundw
      case rel => exact ⟨k + 1, ao3, cap3, by omega, by go_num, rfl, hid (by rw [HNX.out]; exact HO3.out), HE3, HC3⟩
      case measure => simp [intOf]; omega
    · obtain rfl : k = d.length := by omega
      go_wp2
      go_ret
      have := HO.out
      rw [List.take_length] at this
      exact ⟨⟨_, rfl, this⟩, HEr.out⟩
end Go.Proofs.YtijpokajhjhllaaGreatDoor

set_option linter.unusedSimpArgs false
set_option linter.unusedVariables false
namespace Go.Proofs.YtijpokajhjhllaaGreatDoor
open Go Go.RowKit Go.Tum Go.ChangeMaps

theorem infoEnt : (Tryz.prog.info? 100).map (fun i => (i.zero, i.size, i.bytes)) = some (some (.agg #[.string ⟨#[]⟩, .int .i64 0]), 2, 24) := by kernel_rfl
/-- A slice of one entry, new. -/
theorem ent_one (w : World) (e : Nat) (z : Nm × Nat) : Sl (w.alloc (.cells #[vN z.1, .int .i64 (z.2 : Int)] e (0, 0))) 2 (.slice (some ⟨w.heap.size, 0, none⟩) 1 1) 1 (ecells z) := by
  have hblk := heap_alloc_new w (.cells #[vN z.1, .int .i64 (z.2 : Int)] e (0, 0))
  refine ⟨rfl, some ⟨w.heap.size, 0, none⟩, 1, rfl, Nat.le_refl _, by simp [maxLen], (fun h => by cases h), fun a ha j u hu => ?_⟩
  cases ha
  have e1 : (⟨w.heap.size, 0, none⟩ : Addr).add j = ⟨w.heap.size, j, none⟩ := by unfold Addr.add; split <;> simp_all
  rw [e1, cell_of_row _ _ _ _ _ _ hblk]
  simpa using hu
theorem ent_ones (d : Dir) : ∀ y ∈ d.flatMap ecells, y.oneCell' = true := by
  intro y hy
  obtain ⟨z, -, h⟩ := List.mem_flatMap.1 hy
  simp at h
  rcases h with rfl | rfl <;> rfl
theorem noN_succ {d : Dir} {k : Nat} (h : k < d.length) (n : Nm) : noN (d.take (k + 1)) n = noN (d.take k) n ++ (if d[k].1 != n then [d[k]] else []) := by
  rw [List.take_succ_eq_append_getElem h]
  unfold noN
  rw [List.filter_append, List.filter_cons]
  simp
set_option maxRecDepth 100000 in
set_option maxHeartbeats 1000000 in
theorem rwithout_any (w : World) (v : Value) (d : Dir) (n : Nm) (h : RowsOf w 2 v ecells d) (hl : d.length ≤ 100) :
    Calls Tryz.prog 83 #[v, vN n] w fun e w' => (∃ u, e = .returned u ∧ w'.ownsRow w.heap.size 100 2 u (noN d n).length ((noN d n).flatMap ecells)) ∧ Ext w w' := by
  obtain ⟨ao, cap, rfl, hle, hm, hnn, hcell⟩ := h.open
  have HC := hid hcell
  have HNN := hid hnn
  have HLE := hid hl
  have HE0 : Hid (Ext w (w.alloc (.cells #[] 100))) := hid (Ext.alloc _ _)
  have HO0 := hid (World.ownsRow_lit (base := w.heap.size) (e := 100) (size := 2) w #[] 0 (Nat.le_refl _) (by simp [maxLen]) (by simp))
  clear h hnn hcell hl
  go_enter Tryz.func83, Tryz.ntmps83
  go_wp2
  go_loopw [5, 6] (fun t i wr => ∃ (k m : Nat) (go : Option Addr) (gc : Nat), k ≤ d.length ∧ i = .int .i64 k ∧ t = .slice go m gc ∧ Hid (m = (noN (d.take k) n).length) ∧ Hid (wr.ownsRow w.heap.size 100 2 (.slice go m gc) m ((noN (d.take k) n).flatMap ecells)) ∧ Hid (Ext w wr)) (fun t i _ => d.length - (intOf i).toNat)
  case atStart => exact ⟨0, 0, _, _, by omega, rfl, rfl, hid rfl, HO0, HE0⟩
  case round =>
    obtain ⟨k, m, go, gc, hk, rfl, rfl, HM, HO, HE⟩ := hrel
    by_cases hlt : k < d.length
    · obtain ⟨a, rfl⟩ := HNN.out (by omega)
      have c0 := cell_first (HE.out.cell (HC.out a rfl k hlt 0 _ rfl))
      have c1 := cell_next (HE.out.cell (HC.out a rfl k hlt 1 _ rfl)) (by decide)
      have hi1 : (k : Int) < d.length := by omega
      have hsu := noN_succ hlt n
      obtain ⟨z, hz⟩ : ∃ z, d[k] = z := ⟨_, rfl⟩
      replace c0 : wr.cell? (a.add (k * 2)) = some (vN z.1) := by rw [← hz]; exact c0
      replace c1 : wr.cell? ⟨(a.add (k * 2)).block, (a.add (k * 2)).off + 1, none⟩ = some (.int .i64 (z.2 : Int)) := by rw [← hz]; exact c1
      replace hsu : noN (d.take (k + 1)) n = noN (d.take k) n ++ (if z.1 != n then [z] else []) := by rw [← hz]; exact hsu
      have hmk : m ≤ k := by rw [HM.out]; exact Nat.le_trans (List.length_filter_le _ _) (by simp; omega)
      clear hz
      obtain ⟨z1, z2⟩ := z
      dsimp only at c0 c1 hsu
      by_cases he : z1 = n
      · have hb : (!(z1 == n)) = false := by simp [he]
        have HSU : Hid (noN (d.take (k + 1)) n = noN (d.take k) n) := hid (by rw [hsu]; simp [he])
        clear he hsu
        go_wp2
        go_roundw
        case rel => exact ⟨k + 1, m, go, gc, by omega, by go_num, rfl, hid (by rw [HSU.out]; exact HM.out), hid (by rw [HSU.out]; exact HO.out), HE⟩
        case measure => simp [intOf]; omega
      · have hb : (!(z1 == n)) = true := by simp [he]
        have HSU : Hid (noN (d.take (k + 1)) n = noN (d.take k) n ++ [(z1, z2)]) := hid (by rw [hsu]; simp [he])
        have hcap := HLE.out
        clear he hsu
        go_wp2_with (at_builtin; refine wpList_append_sl rfl (.tmp 21) (.tmp 26) 72 rfl w.heap.size 100 Tryz.underlying72 infoEnt rfl (by decide) rfl ((Ext.alloc wr _).owns HO.out) rfl (ent_one wr 100 (z1, z2)) (by intro y hy; simp at hy; rcases hy with rfl | rfl <;> rfl) (by simp [maxLen]; omega) (by omega) (Nat.le_trans HE.out.size (by simp)) ?_; intro ao3 cap3 w3 hO3 hg3 hb3; have HO3 := hid hO3; have HE3 : Hid (Ext w w3) := hid (Below.trans (HE.out.trans (Ext.alloc _ _)) hb3); clear hO3 hg3 hb3)
        go_roundw
        case rel => exact ⟨k + 1, m + 1, ao3, cap3, by omega, by go_num, rfl, hid (by rw [HSU.out, List.length_append, ← HM.out]; rfl), hid (by rw [HSU.out, List.flatMap_append]; simpa using HO3.out), HE3⟩
        case measure => simp [intOf]; omega
    · obtain rfl : k = d.length := by omega
      go_wp2
      go_ret
      have h1 := HO.out
      have h2 := HM.out
      rw [List.take_length] at h1 h2
      subst h2
      exact ⟨⟨_, rfl, h1⟩, HE.out⟩
end Go.Proofs.YtijpokajhjhllaaGreatDoor

set_option linter.unusedSimpArgs false
set_option linter.unusedVariables false
namespace Go.Proofs.YtijpokajhjhllaaGreatDoor
open Go Go.RowKit Go.Tum Go.ChangeMaps

theorem doP_can (s : PS) (e : Nat) (act : PS → PS) : doP s e act = if (canP s e).1 = 0 then (0, act (canP s e).2) else canP s e := by
  unfold canP doP
  by_cases h1 : s.down = true
  · simp [h1]
  · by_cases h2 : e = 0
    · by_cases h3 : s.fuse = 0
      · simp [h1, h2, h3]
      · simp [h1, h2, h3]
    · simp [h1, h2]
/-- Blocks of b's values are a's, or new. -/
def Nw (n : Nat) (a b : List Value) : Prop := ∀ q, (∃ v ∈ b, q ∈ oB v) → (∃ v ∈ a, q ∈ oB v) ∨ n ≤ q
theorem Nw.refl (n : Nat) (a : List Value) : Nw n a a := fun q h => .inl h
theorem Nw.trans {n m : Nat} {a b c : List Value} (h : Nw n a b) (k : Nw m b c) (hn : n ≤ m) : Nw n a c := fun q hq => by
  rcases k q hq with h1 | h1
  · exact h q h1
  · exact .inr (Nat.le_trans hn h1)
theorem Nw.set {n : Nat} {a : List Value} {i : Nat} {v : Value} (h : ∀ q ∈ oB v, n ≤ q) : Nw n a (a.set i v) := fun q ⟨u, hu, hq⟩ => by
  rcases List.mem_or_eq_of_mem_set hu with h1 | rfl
  · exact .inl ⟨u, h1, hq⟩
  · exact .inr (h q hq)
theorem Nw.snoc (n : Nat) (a : List Value) : Nw n a (a ++ [nilV]) := fun q ⟨u, hu, hq⟩ => by
  rcases List.mem_append.1 hu with h1 | h1
  · exact .inl ⟨u, h1, hq⟩
  · obtain rfl : u = nilV := by simpa using h1
    simp [oB, Value.ownBlock] at hq
/-- What an act of the document's disk leaves. -/
def RDo (B : Nat) (w : World) (r : Nat) (x : RX) (c : Nat × PS) (e : Ending) (w' : World) : Prop := e = .returned (.int .i64 (c.1 : Nat)) ∧ (∃ x', RD B w' r x' c.2 ∧ Nw w.heap.size x.fv x'.fv) ∧ Fr (r :: oB x.vf) w w'
set_option maxHeartbeats 1000000 in
theorem rdsync_any {B : Nat} {w : World} {r : Nat} {x : RX} {s : PS} (h : RD B w r x s) (hB : B ≤ w.heap.size) (hw : WF s) :
    Calls Tryz.prog 24 #[pv r] w fun e w' => RDo B w r x (dsyP s) e w' := by
  have H := hid h
  have HB := hid hB
  have hcan := rcan_any 0 h hw.fu
  have hdo := doP_can s 0 (fun s => { s with sure := s.dir, opn := [] })
  have HDO : Hid (dsyP s = if (canP s 0).1 = 0 then (0, ({ (canP s 0).2 with sure := (canP s 0).2.dir, opn := [] } : PS)) else canP s 0) := hid hdo
  obtain ⟨C, hC⟩ : ∃ C, canP s 0 = C := ⟨_, rfl⟩
  rw [hC] at hcan HDO
  obtain ⟨er, s1⟩ := C
  dsimp only at HDO
  have HCAN := hid hcan
  clear h hB hw hdo hC hcan
  go_enter Tryz.func24, Tryz.ntmps24
  go_wp2_with fail
  refine HCAN.out.mono ?_
  rintro e w1 ⟨rfl, h1, f1⟩
  dsimp only at h1 ⊢
  have H1 := hid h1
  have F1 := hid f1
  clear h1 f1
  by_cases her : er = 0
  case neg =>
    have be : ((er : Int) == 0) = false := by simp; omega
    have HD2 : Hid (dsyP s = (er, s1)) := hid (by rw [HDO.out, if_neg her])
    clear her
    go_wp2
    go_ret
    unfold RDo
    rw [HD2.out]
    exact ⟨rfl, ⟨x, H1.out, Nw.refl _ _⟩, F1.out.mono (by simp)⟩
  subst her
  have HD2 : Hid (dsyP s = (0, ({ s1 with sure := s1.dir, opn := [] } : PS))) := hid (by rw [HDO.out, if_pos rfl])
  go_wp2_with fail
  refine (rnow_any H1.out).mono ?_
  rintro e w2 ⟨⟨v, rfl, ho⟩, hE⟩
  have H2 := hid (H1.out.ext hE)
  have F2 := hid (F1.out.trans (Ext.fr hE))
  have hone : ∃ o n c, v = .slice o n c := by
    rcases ho.2 with ⟨q, -⟩ | ⟨g, cp, cur, q, -⟩
    · exact ⟨_, _, _, q⟩
    · exact ⟨_, _, _, q⟩
  obtain ⟨o, n, c, rfl⟩ := hone
  have HO := hid ho
  have h3 := (H2.out.ext (Ext.alloc w2 (.cells #[.slice o n c] 72)))
  have H3 := hid h3
  obtain ⟨⟨-, -, c2, -, -⟩, ff⟩ := lk5 h3.hd
  have f2 := ff 2
  have HSZ := hid (Nat.le_trans HB.out F2.out.size)
  clear ho hE h3 ff
  go_wp2
  go_ret
  unfold RDo
  rw [HD2.out]
  have hF : Fr [r] (w2.alloc (.cells #[.slice o n c] 72)) ((w2.alloc (.cells #[.slice o n c] 72)).setCell ⟨r, 2, none⟩ (.slice (some ⟨w2.heap.size, 0, none⟩) 1 1)) := fr_setCell _ _ _ (by simp)
  have hs : ∀ e, e ≠ 65 → ∀ q ∈ [r], ∃ o2, (w2.alloc (.cells #[.slice o n c] 72)).heap[q]? = some o2 ∧ ∀ cs, o2 ≠ .cells cs e (0, 0) := by
    intro e he q hq
    simp at hq; subst hq
    exact ⟨_, H3.out.hd, fun cs hc => he (by simp at hc; exact hc.2.symm)⟩
  have o1 := World.ownsRow_lit (base := B) (e := 72) (size := 1) w2 #[.slice o n c] 1 HSZ.out (by simp [maxLen]) (by simp)
  refine ⟨rfl, ⟨⟨x.vf, .slice (some ⟨w2.heap.size, 0, none⟩) 1 1, x.fv, [.slice o n c]⟩, ⟨block_set5 H3.out.hd 2 _, H3.out.fn, ownsRow_fr2 H3.out.fr hF (hs _ (by decide)), fun i hi => ownsRow_fr2 (H3.out.fb i hi) hF (hs _ (by decide)), rfl, ownsRow_fr2 o1 hF (hs _ (by decide)), fun k hk => ?_, H3.out.lo⟩, Nw.refl _ _⟩, ?_⟩
  · obtain rfl : k = 0 := by simpa using hk
    exact ownsRow_fr2 ((Ext.alloc w2 _).owns HO.out) hF (hs _ (by decide))
  · exact (F2.out.trans ((Ext.fr (Ext.alloc w2 _)).trans hF)).mono (by simp)
end Go.Proofs.YtijpokajhjhllaaGreatDoor

set_option linter.unusedSimpArgs false
set_option linter.unusedVariables false
namespace Go.Proofs.YtijpokajhjhllaaGreatDoor
open Go Go.RowKit Go.Tum Go.ChangeMaps

theorem infoDir : (Tryz.prog.info? 72).map (fun i => (i.zero, i.size, i.bytes)) = some (some (.slice none 0 0), 1, 24) := by kernel_rfl
theorem row_slice {w : World} {b e s n : Nat} {v : Value} {xs : List Value} (h : w.ownsRow b e s v n xs) : ∃ o n c, v = .slice o n c := by
  rcases h.2 with ⟨q, -⟩ | ⟨g, cp, cur, q, -⟩
  · exact ⟨_, _, _, q⟩
  · exact ⟨_, _, _, q⟩
theorem RD.dv_one {B : Nat} {w : World} {r : Nat} {x : RX} {s : PS} (h : RD B w r x s) : ∀ y ∈ x.dv, y.oneCell' = true := by
  intro y hy
  obtain ⟨i, hi, rfl⟩ := List.mem_iff_getElem.1 hy
  have h1 := h.dd i (by have := h.dn; omega)
  have e : x.dv.getD i nilV = x.dv[i] := by rw [List.getD_eq_getElem?_getD, List.getElem?_eq_getElem hi]; rfl
  rw [e] at h1
  obtain ⟨o, n, c, q⟩ := row_slice h1
  rw [q]; rfl
/-- A directory more: the row of directories, new, is stored. -/
theorem RD.more {B : Nat} {w : World} {r : Nat} {x : RX} {s : PS} (h : RD B w r x s) (c : Chg) (v vd : Value) (hv : w.ownsRow B 100 2 v (appC s.dir c).length ((appC s.dir c).flatMap ecells)) (hd : w.ownsRow B 72 1 vd (x.dv.length + 1) (x.dv ++ [v])) :
    RD B (w.setCell ⟨r, 2, none⟩ vd) r ⟨x.vf, vd, x.fv, x.dv ++ [v]⟩ { s with opn := s.opn ++ [c] } := by
  have hF : Fr [r] w (w.setCell ⟨r, 2, none⟩ vd) := fr_setCell _ _ _ (by simp)
  have hs : ∀ e, e ≠ 65 → ∀ q ∈ [r], ∃ o2, w.heap[q]? = some o2 ∧ ∀ cs, o2 ≠ .cells cs e (0, 0) := by
    intro e he q hq
    simp at hq; subst hq
    exact ⟨_, h.hd, fun cs hc => he (by simp at hc; exact hc.2.symm)⟩
  refine ⟨block_set5 h.hd 2 _, h.fn, ownsRow_fr2 h.fr hF (hs _ (by decide)), fun i hi => ownsRow_fr2 (h.fb i hi) hF (hs _ (by decide)), by simp [h.dn], ?_, fun k hk => ?_, h.lo⟩
  · show World.ownsRow _ B _ 1 vd (x.dv ++ [v]).length (x.dv ++ [v])
    rw [List.length_append]
    exact ownsRow_fr2 hd hF (hs _ (by decide))
  · show World.ownsRow _ B _ 2 ((x.dv ++ [v]).getD k nilV) (dirAt s.sure ((s.opn ++ [c]).take k)).length ((dirAt s.sure ((s.opn ++ [c]).take k)).flatMap ecells)
    by_cases hk2 : k ≤ s.opn.length
    · rw [List.take_append_of_le_length hk2]
      have e : (x.dv ++ [v]).getD k nilV = x.dv.getD k nilV := by
        rw [List.getD_eq_getElem?_getD, List.getD_eq_getElem?_getD, List.getElem?_append_left (by have := h.dn; omega)]
      rw [e]
      exact ownsRow_fr2 (h.dd k hk2) hF (hs _ (by decide))
    · have hk3 : k = s.opn.length + 1 := by simp at hk; omega
      subst hk3
      rw [List.take_of_length_le (by simp)]
      have e1 : dirAt s.sure (s.opn ++ [c]) = appC s.dir c := by unfold PS.dir dirAt; simp only [List.foldl_append, List.foldl_cons, List.foldl_nil]
      have e : (x.dv ++ [v]).getD (s.opn.length + 1) nilV = v := by
        rw [← h.dn, List.getD_eq_getElem?_getD, List.getElem?_append_right (Nat.le_refl _)]
        simp
      rw [e1, e]
      exact ownsRow_fr2 hv hF (hs _ (by decide))
end Go.Proofs.YtijpokajhjhllaaGreatDoor

set_option linter.unusedSimpArgs false
set_option linter.unusedVariables false
namespace Go.Proofs.YtijpokajhjhllaaGreatDoor
open Go Go.RowKit Go.Tum Go.ChangeMaps

theorem canP_same (s : PS) (e : Nat) : (canP s e).2.dir = s.dir ∧ (canP s e).2.opn = s.opn ∧ (canP s e).2.files = s.files ∧ (canP s e).2.sure = s.sure := by
  unfold canP
  exact doP_ind (P := fun t => t.dir = s.dir ∧ t.opn = s.opn ∧ t.files = s.files ∧ t.sure = s.sure) s e id ⟨rfl, rfl, rfl, rfl⟩ ⟨rfl, rfl, rfl, rfl⟩ ⟨rfl, rfl, rfl, rfl⟩
theorem canP_ne (s : PS) {e : Nat} (h : e ≠ 0) : (canP s e).1 ≠ 0 := by
  unfold canP doP
  by_cases hd : s.down = true
  · simp [hd]
  · simp [hd, h]
theorem findD_neg {s : PS} {n : Nm} : decide (findD s.dir n < 0) = decide (missP s n = 5) := by
  unfold findD missP
  cases look s.dir n with
  | none => rfl
  | some f => simp
theorem own_blk {w : World} {b e s n : Nat} {v : Value} {xs : List Value} (h : w.ownsRow b e s v n xs) {e' : Nat} (he : e' ≠ e) : ∀ q ∈ oB v, ∃ o, w.heap[q]? = some o ∧ ∀ cs, o ≠ .cells cs e' (0, 0) := by
  intro q hq
  rcases h.2 with ⟨hv, -⟩ | ⟨g, cap, cur, hv, hb, hgg, rest⟩
  · rw [hv] at hq; simp [oB, Value.ownBlock] at hq
  · rw [hv] at hq
    simp [oB, Value.ownBlock] at hq
    subst hq
    exact ⟨_, hgg, fun cs hc => he (by simp at hc; exact hc.2.symm)⟩
/-- As wpList_append_sl: N is how many there are then. -/
theorem wpList_append_slN {P : Program} {ops : Array Oper} {rest : List Oper} {o : Oper} {a : Act} {w : World} {Q : Exit → Act → World → Prop} (hgd : o.guard = none) (s x : Operand) (t : Nat)
    (ho : o.op = .call { callee := .builtin .append, args := #[s, x], argTypes := #[t, t] }) (base e : Nat) {z : Value} {size bytes : Nat} (ht : P.underlying t = some (.slice e))
    (hi : (P.info? e).map (fun i => (i.zero, i.size, i.bytes)) = some (some z, size, bytes)) (hzs : z.cells.size = size) (hsz : 0 < size)
    {v : Value} {n : Nat} {xs : List Value} (hs : a.eval s = v) (hown : w.ownsRow base e size v n xs) {u : Value} {m : Nat} {ys : List Value} (hx : a.eval x = u) (hsl : Sl w size u m ys)
    (h1 : ∀ y ∈ ys, y.oneCell' = true) (N : Nat) (hN : N = n + m) (hb : N ≤ maxLen) (hbytes : N * bytes ≤ 140737488355328) (hbase : base ≤ w.heap.size)
    (h : ∀ ao cap w', w'.ownsRow base e size (.slice ao N cap) N (xs ++ ys) → Fr (oB v) w w' → Below base w w' → wpList P ops Q rest (a.put o.dst (.slice ao N cap)) w') :
    wpList P ops Q (o :: rest) a w := by
  subst hN
  exact wpList_append_sl hgd s x t ho base e ht hi hzs hsz hs hown hx hsl h1 hb hbytes hbase fun ao cap w' k1 k2 k3 => h ao cap w' k1 (fr_grown k2 k3) k3
theorem row_slN {w : World} {b e s n : Nat} {v : Value} {xs : List Value} (h : w.ownsRow b e s v n xs) : ∃ o c, v = .slice o n c := row_shape h
set_option maxRecDepth 100000 in
set_option maxHeartbeats 1000000 in
theorem rdelete_any {B : Nat} {w : World} {r : Nat} {x : RX} {s : PS} (n : Nm) (h : RD B w r x s) (hB : B ≤ w.heap.size) (hw : WF s) (hl : s.opn.length ≤ 100000) :
    Calls Tryz.prog 44 #[pv r, vN n] w fun e w' => RDo B w r x (delP s n) e w' := by
  have H := hid h
  have HB := hid hB
  have HL := hid hl
  have HFU := hid hw.fu
  have HDL := hid hw.dir.le
  have hdo := doP_can s (missP s n) (fun s => { s with opn := s.opn ++ [⟨n, [], none⟩] })
  have hcd := canP_same s (missP s n)
  have hcn := fun h => canP_ne s (e := missP s n) h
  have HDO : Hid (delP s n = if (canP s (missP s n)).1 = 0 then (0, ({ (canP s (missP s n)).2 with opn := (canP s (missP s n)).2.opn ++ [⟨n, [], none⟩] } : PS)) else canP s (missP s n)) := hid hdo
  have hfn := findD_neg (s := s) (n := n)
  obtain ⟨me, hme⟩ : ∃ e, missP s n = e := ⟨_, rfl⟩
  have HME : Hid (me = 0 ∨ me = 5) := hid (by rw [← hme]; unfold missP; split <;> simp)
  rw [hme] at HDO hcd hfn hcn
  obtain ⟨C, hC⟩ : ∃ C, canP s me = C := ⟨_, rfl⟩
  rw [hC] at HDO hcd hcn
  have HCC := hid hC
  obtain ⟨er, s1⟩ := C
  dsimp only at HDO hcd hcn
  have HCD := hid hcd
  have HCN := hid hcn
  clear h hB hl hw hdo hme hC hcd hcn
  go_enter Tryz.func44, Tryz.ntmps44
  go_wp2_with fail
  refine (rfind_any n H.out).mono ?_
  rintro e w1 ⟨rfl, hE⟩
  have HE1 := hid hE
  have H1 := hid (H.out.ext hE)
  obtain ⟨fd, hfd⟩ : ∃ f, findD s.dir n = f := ⟨_, rfl⟩
  rw [hfd] at hfn ⊢
  clear hfd hE
  have hcan : Calls Tryz.prog 62 #[pv r, .int .i64 (me : Int)] w1 fun e w' => CanP B w1 r x (er, s1) e w' := by
    have := rcan_any me H1.out HFU.out
    rw [HCC.out] at this
    exact this
  have HCAN := hid hcan
  clear hcan
  rcases HME.out with rfl | rfl
  · have hneg : decide (fd < 0) = false := by rw [hfn]; rfl
    go_wp2_with fail
    refine HCAN.out.mono ?_
    rintro e w2 ⟨rfl, h1, f1⟩
    dsimp only at h1 ⊢
    have H2 := hid h1
    have F2 : Hid (Fr [r] w w2) := hid ((Ext.fr HE1.out).trans f1)
    clear h1 f1
    by_cases her : er = 0
    case neg =>
      have be : ((er : Int) == 0) = false := by simp; omega
      have HD2 : Hid (delP s n = (er, s1)) := hid (by rw [HDO.out, if_neg her])
      clear her
      go_wp2
      go_ret
      unfold RDo
      rw [HD2.out]
      exact ⟨rfl, ⟨x, H2.out, Nw.refl _ _⟩, F2.out.mono (by simp)⟩
    subst her
    have HD2 : Hid (delP s n = (0, ({ s1 with opn := s1.opn ++ [⟨n, [], none⟩] } : PS))) := hid (by rw [HDO.out, if_pos rfl])
    have h3 := H2.out.ext (Ext.alloc w2 (.cells #[] 72))
    obtain ⟨⟨-, -, c2, -, -⟩, -⟩ := lk5 h3.hd
    have hsl := Sl.of_owns h3.dr
    obtain ⟨m, hm⟩ : ∃ m, x.dv.length = m := ⟨_, rfl⟩
    have HM := hid hm
    have hdn : m ≤ 100001 := by have h5 := H2.out.dn; have h6 := congrArg List.length HCD.out.2.1; have h7 := HL.out; omega
    have hdr := h3.dr
    rw [hm] at hsl hdr
    obtain ⟨vo, vc, hvd⟩ := row_slN hdr
    rw [hvd] at c2 hsl
    have HSL := hid hsl
    have HONE := hid H2.out.dv_one
    have HLIT := hid (World.ownsRow_lit (base := w2.heap.size) (e := 72) (size := 1) w2 #[] 0 (Nat.le_refl _) (by simp [maxLen]) (by simp))
    clear h3 hsl hvd hdr hm
    go_wp2_with (at_builtin; refine wpList_append_slN rfl (.tmp 16) (.tmp 20) 63 rfl w2.heap.size 72 Tryz.underlying63 infoDir rfl (by decide) rfl HLIT.out rfl HSL.out HONE.out m (by omega) (by simp [maxLen]; omega) (by omega) (by simp) ?_; intro ao3 cap3 w3 hO3 hg3 hb3; have HO3 := hid hO3; have HE3 : Hid (Ext w2 w3) := hid (Below.trans (Ext.alloc _ _) hb3); clear hO3 hg3 hb3)
    have HDN := hid hdn
    clear hdn c2
    have H3 := hid (H2.out.ext HE3.out)
    refine (rnow_any H3.out).mono ?_
    rintro e w4 ⟨⟨v4, rfl, ho4⟩, hE4⟩
    have HE4 := hid (HE3.out.trans hE4)
    have hrow : RowsOf w4 2 v4 ecells s1.dir := ⟨fun _ _ => rfl, Sl.of_owns ho4⟩
    have HROW := hid hrow
    obtain ⟨o4, n4, c4, rfl⟩ := row_slice ho4
    have HO4 := hid (hE4.owns HO3.out)
    clear ho4 hE4 hrow
    go_wp2_with fail
    have hdl : s1.dir.length ≤ 100 := by have h6 := congrArg List.length HCD.out.1; have h7 := HDL.out; omega
    refine (rwithout_any _ _ s1.dir n HROW.out hdl).mono ?_
    rintro e w5 ⟨⟨u5, rfl, ho5⟩, hE5⟩
    have HE5 := hid (HE4.out.trans hE5)
    have HO5 := hid (hE5.owns HO4.out)
    have HS2 := hid (Nat.le_trans HB.out F2.out.size)
    have HU5 := hid (owns_mono ho5 (Nat.le_trans HS2.out HE4.out.size))
    obtain ⟨o5, n5, c5, rfl⟩ := row_slice ho5
    have HT := hid (Sl.of_owns (World.ownsRow_lit (base := w5.heap.size) (e := 72) (size := 1) w5 #[.slice o5 n5 c5] 1 (Nat.le_refl _) (by simp [maxLen]) (by simp)))
    have hdn := HDN.out
    clear ho5 hE5 hdl
    go_wp2_with (at_builtin; refine wpList_append_slN rfl (.tmp 21) (.tmp 26) 63 rfl w2.heap.size 72 Tryz.underlying63 infoDir rfl (by decide) rfl ((Ext.alloc w5 _).owns HO5.out) rfl HT.out (by intro y hy; simp at hy; subst hy; rfl) (m + 1) (by omega) (by simp [maxLen]; omega) (by omega) (Nat.le_trans HE5.out.size (by simp)) ?_; intro ao6 cap6 w6 hO6 hg6 hb6; have HO6 := hid hO6; have HE6 : Hid (Ext w2 w6) := hid (Below.trans (HE5.out.trans (Ext.alloc _ _)) hb6); have HU6 := hid (ownsRow_fr2 ((Ext.alloc w5 _).owns HU5.out) hg6 (own_blk ((Ext.alloc w5 _).owns HO5.out) (by decide))); have h6 := H2.out.ext HE6.out; have H6 := hid h6; obtain ⟨⟨-, -, c2, -, -⟩, ff⟩ := lk5 h6.hd; have f2 := ff 2; clear hO6 hg6 hb6 h6 ff)
    go_ret
    unfold RDo
    rw [HD2.out]
    refine ⟨rfl, ⟨_, RD.more H6.out ⟨n, [], none⟩ (.slice o5 n5 c5) _ HU6.out ?_, Nw.refl _ _⟩, ?_⟩
    · have := owns_mono HO6.out HS2.out
      rw [HM.out]
      simpa using this
    · exact (F2.out.trans ((Ext.fr HE6.out).trans (fr_setCell _ _ _ (by simp)))).mono (by simp)
  · have hneg : decide (fd < 0) = true := by rw [hfn]; rfl
    go_wp2_with fail
    refine HCAN.out.mono ?_
    rintro e w2 ⟨rfl, h1, f1⟩
    dsimp only at h1 ⊢
    have H2 := hid h1
    have F2 : Hid (Fr [r] w w2) := hid ((Ext.fr HE1.out).trans f1)
    have her : er ≠ 0 := HCN.out (by decide)
    clear h1 f1
    have be : ((er : Int) == 0) = false := by simp; omega
    have HD2 : Hid (delP s n = (er, s1)) := hid (by rw [HDO.out, if_neg her])
    clear her
    go_wp2
    go_ret
    unfold RDo
    rw [HD2.out]
    exact ⟨rfl, ⟨x, H2.out, Nw.refl _ _⟩, F2.out.mono (by simp)⟩
end Go.Proofs.YtijpokajhjhllaaGreatDoor

