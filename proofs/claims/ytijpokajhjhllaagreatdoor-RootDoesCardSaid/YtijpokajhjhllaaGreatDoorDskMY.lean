/- A file's crash; the files of a disk by themselves.
Fuse, Read.
The shelf's contracts of library functions, laid at this program by the kit's lay-shelf and lay-plain, trimmed.
Names. -/
import Derived.Test.YtijpokajhjhllaaGreatDoorDskMX
import Derived.Lib.SliceRun
import Derived.Shelf.Sort.Plain
import Derived.Shelf.Slices.In.SortNone
import Derived.Test.YtijpokajhjhllaaGreatDoorProg
import Derived.Sort.OwnSorted
import Derived.Sort.KeysCollected
set_option linter.unusedSimpArgs false
set_option linter.unusedVariables false
namespace Go.Proofs.YtijpokajhjhllaaGreatDoor
open Go Go.RowKit Go.Tum Go.ChangeMaps
open Go.ParB (upd Lof)
open Go.ParE (putS slotsR slots Closed)

set_option maxHeartbeats 1000000 in
theorem dfuse_any {B : Nat} {w : World} {p : Nat} {x : DX} {s : PS} (n : Int) (hn : n ≤ 9223372036854775807) (h : Dk B w p x s) (hB : B ≤ w.heap.size) :
    Calls Tryz.prog 12 #[pv p, .int .i64 n] w fun e w' => (∃ u, e = .returned u) ∧ Stp B w p x (fusP s n) w' := by
  have hmx : (if n < -1 then (-1 : Int) else n) = max n (-1) := by split <;> omega
  have hb := block_set6 h.hd 4 (.int .i64 (max n (-1)))
  have HS : Hid (Stp B w p x (fusP s n) (w.setCell ⟨p, 4, none⟩ (.int .i64 (max n (-1))))) := hid ⟨x, h.cellSet 4 (.int .i64 (max n (-1))) (fusP s n) ⟨rfl, rfl, rfl, rfl⟩ (by show -1 ≤ max n (-1) ∧ max n (-1) ≤ _; omega) hb, fr_setCell _ _ _ (by simp [DX.blk]), (Below.refl B w).setCell (by exact h.lo.1) _, fun q hq => .inl hq⟩
  obtain ⟨⟨-, -, -, -, c4, -⟩, ff⟩ := lk6 h.hd
  have f4 := ff 4
  clear h hb ff
  by_cases hlt : n < -1
  · have e : max n (-1) = -1 := by omega
    rw [e] at HS hmx
    go_enter Tryz.func12, Tryz.ntmps12
    go_wp2
    go_returns
    exact ⟨⟨_, rfl⟩, HS.out⟩
  · have e : max n (-1) = n := by omega
    rw [e] at HS hmx
    go_enter Tryz.func12, Tryz.ntmps12
    go_wp2
    go_returns
    exact ⟨⟨_, rfl⟩, HS.out⟩
set_option maxRecDepth 100000 in
/-- slices.Clone. -/
theorem bclone_any (w : World) (u : Value) (l : List UInt8) (hu : Byt w u l) (hl : l.length ≤ 140737488355328) :
    Calls Tryz.prog 84 #[u] w fun e w' => (∃ v, e = .returned v ∧ Own w' w.heap.size 5 v l) ∧ Ext w w' := by
  have q32 : ∀ (w : World) (a : Option Addr) (n c : Nat), (binOp .eql 37 (.slice a n c) (.slice none 0 0)).run Tryz.prog w = .ok (.bool a.isNone) w := fun w a n c => Lib.run_eql_slice_nil w _ _ a n c 0 0 Tryz.underlying37
  have HU := hid hu
  obtain ⟨uo, uc, rfl, hle, hmx, hnn, -⟩ := hu.open
  clear hu
  cases uo with
  | none =>
    have h0 : l = [] := by
      rcases Nat.eq_zero_or_pos uc with h | h
      · exact List.length_eq_zero_iff.1 (by omega)
      · obtain ⟨a, ha⟩ := hnn h; cases ha
    subst h0
    clear hnn
    go_enter Tryz.func84, Tryz.ntmps84
    go_wp2
    go_ret
    exact ⟨⟨_, rfl, Own.nil _ _ _⟩, Ext.refl _⟩
  | some a =>
    clear hnn
    go_enter Tryz.func84, Tryz.ntmps84
    go_wp2_with (at_builtin; refine wpList_append_byt rfl (.tmp 5) (.tmp 6) 37 rfl w.heap.size 5 Tryz.underlying37 infoU8 rfl (own_lit w w.heap.size 5 [] #[] rfl 0 rfl (Nat.le_refl _) (by simp [maxLen])) rfl (HU.out.ext (Ext.alloc _ _)) l.length (by simp) hl (by simp) ?_; intro ao2 cap2 w2 hO2 hg2 hb2; have HO2 := hid hO2; have HE2 : Hid (Ext w w2) := hid (Below.trans (Ext.alloc _ _) hb2); clear hO2 hg2 hb2)
    go_ret
    have := HO2.out
    rw [List.nil_append] at this
    exact ⟨⟨_, rfl, this⟩, HE2.out⟩
def rdE (s : PS) (n : Nm) : Nat := if s.down then 7 else if look s.dir n = none then 5 else 0
def rdB (s : PS) (n : Nm) : List UInt8 := if s.down then [] else match look s.dir n with
  | none => []
  | some f => (s.files.getD f ([], 0)).1
def ReadP (B : Nat) (w : World) (s : PS) (n : Nm) (e : Ending) (w' : World) : Prop := (∃ v, e = .returned (.tuple #[v, .int .i64 (rdE s n : Nat)]) ∧ Own w' w.heap.size 5 v (rdB s n)) ∧ Ext w w'
set_option maxHeartbeats 1000000 in
theorem dread_any {B : Nat} {w : World} {p : Nat} {x : DX} {s : PS} (n : Nm) (hk : n.length ≤ maxLen) (h : Dk B w p x s) :
    Calls Tryz.prog 46 #[pv p, vN n] w fun e w' => ReadP B w s n e w' := by
  obtain ⟨⟨-, c1, -, -, -, c5⟩, -⟩ := lk6 h.hd
  have hlk := h.dr.look n hk
  rw [hb_look] at hlk
  have H := hid h
  clear h
  cases hd : s.down with
  | true =>
    rw [hd] at c5
    have HE : Hid (rdE s n = 7 ∧ rdB s n = []) := hid ⟨by unfold rdE; rw [hd]; rfl, by unfold rdB; rw [hd]; rfl⟩
    clear hlk hd
    go_enter Tryz.func46, Tryz.ntmps46
    go_wp2
    go_returns
    unfold ReadP
    rw [HE.out.1, HE.out.2]
    exact ⟨⟨_, rfl, Own.nil _ _ _⟩, Ext.refl _⟩
  | false =>
    rw [hd] at c5
    cases hf : look s.dir n with
    | none =>
      have HE : Hid (rdE s n = 5 ∧ rdB s n = []) := hid ⟨by unfold rdE; rw [hd, hf]; rfl, by unfold rdB; rw [hd, hf]; rfl⟩
      rw [hf] at hlk
      simp only [Option.map_none, ptr] at hlk
      clear hf hd
      go_enter Tryz.func46, Tryz.ntmps46
      go_wp2
      go_returns
      unfold ReadP
      rw [HE.out.1, HE.out.2]
      exact ⟨⟨_, rfl, Own.nil _ _ _⟩, Ext.refl _⟩
    | some f =>
      have HE : Hid (rdE s n = 0 ∧ rdB s n = (s.files.getD f ([], 0)).1) := hid ⟨by unfold rdE; rw [hd, hf]; rfl, by unfold rdB; rw [hd, hf]; rfl⟩
      rw [hf] at hlk
      simp only [Option.map_some, ptr] at hlk
      have hfl := (H.out.gd.dnm (look_mem hf)).2
      obtain ⟨fo, fc, hblk, hsv, hown⟩ := H.out.file hfl
      obtain ⟨q0, -, -⟩ := lk2 hblk
      have HOWN := hid hown
      have HLB := hid (H.out.gd.fl _ (getD_mem (d := ([], 0)) hfl)).2
      clear hf hd hblk hsv hown hfl
      generalize x.bk f = bf at *
      generalize flen s.files f = fl at *
      go_enter Tryz.func46, Tryz.ntmps46
      go_wp2_with fail
      refine (bclone_any w _ _ HOWN.out.byt (by have := HLB.out; omega)).mono ?_
      rintro e w2 ⟨⟨v, rfl, ho⟩, hE⟩
      have HO := hid ho
      have HEE := hid hE
      clear ho hE
      go_wp2
      go_returns
      unfold ReadP
      rw [HE.out.1, HE.out.2]
      exact ⟨⟨_, rfl, HO.out⟩, HEE.out⟩
end Go.Proofs.YtijpokajhjhllaaGreatDoor

namespace Go.Proofs
open Go.Shelf
def Tryz.lays190_ren : Go.Shelf.Ren := ⟨fun | 190 => 89 | 125 => 108 | 258 => 107 | 128 => 122 | 129 => 123 | 302 => 113 | 303 => 114 | 304 => 115 | 305 => 116 | 306 => 117 | 307 => 118 | 308 => 119 | 309 => 120 | 310 => 121 | 333 => 127 | 329 => 128 | 330 => 129 | 334 => 130 | 335 => 131 | 336 => 132 | 344 => 135 | n => n, fun | 31 => 59 | 9 => 9 | 3 => 3 | 46 => 149 | 0 => 0 | 51 => 151 | 53 => 31 | 4 => 4 | 183 => 155 | 182 => 154 | 131 => 160 | 5 => 5 | 218 => 166 | 222 => 170 | 228 => 173 | 229 => 174 | n => n, fun | n => n⟩
theorem Tryz.lays190 : Go.Proofs.Lays.n190 Tryz.prog Tryz.lays190_ren := {
  mixed := by kernel_rfl
  f125 := Tryz.func108.trans (congrArg some (by kernel_rfl))
  f128 := Tryz.func122.trans (congrArg some (by kernel_rfl))
  f129 := Tryz.func123.trans (congrArg some (by kernel_rfl))
  f190 := Tryz.func89.trans (congrArg some (by kernel_rfl))
  f258 := Tryz.func107.trans (congrArg some (by kernel_rfl))
  f302 := Tryz.func113.trans (congrArg some (by kernel_rfl))
  f303 := Tryz.func114.trans (congrArg some (by kernel_rfl))
  f304 := Tryz.func115.trans (congrArg some (by kernel_rfl))
  f305 := Tryz.func116.trans (congrArg some (by kernel_rfl))
  f306 := Tryz.func117.trans (congrArg some (by kernel_rfl))
  f307 := Tryz.func118.trans (congrArg some (by kernel_rfl))
  f308 := Tryz.func119.trans (congrArg some (by kernel_rfl))
  f309 := Tryz.func120.trans (congrArg some (by kernel_rfl))
  f310 := Tryz.func121.trans (congrArg some (by kernel_rfl))
  f329 := Tryz.func128.trans (congrArg some (by kernel_rfl))
  f330 := Tryz.func129.trans (congrArg some (by kernel_rfl))
  f333 := Tryz.func127.trans (congrArg some (by kernel_rfl))
  f334 := Tryz.func130.trans (congrArg some (by kernel_rfl))
  f335 := Tryz.func131.trans (congrArg some (by kernel_rfl))
  f336 := Tryz.func132.trans (congrArg some (by kernel_rfl))
  f344 := Tryz.func135.trans (congrArg some (by kernel_rfl))
  t0 := Tryz.underlying0
  a0 := Tryz.isAgg0
  z0 := Tryz.sizeOf0
  v0 := Tryz.zeroValue0
  t3 := Tryz.underlying3
  a3 := Tryz.isAgg3
  z3 := Tryz.sizeOf3
  v3 := Tryz.zeroValue3
  t4 := Tryz.underlying4
  a4 := Tryz.isAgg4
  z4 := Tryz.sizeOf4
  v4 := Tryz.zeroValue4
  t5 := Tryz.underlying5
  a5 := Tryz.isAgg5
  z5 := Tryz.sizeOf5
  v5 := Tryz.zeroValue5
  t9 := Tryz.underlying9
  a9 := Tryz.isAgg9
  z9 := Tryz.sizeOf9
  v9 := Tryz.zeroValue9
  t31 := Tryz.underlying59
  a31 := Tryz.isAgg59
  z31 := Tryz.sizeOf59
  v31 := Tryz.zeroValue59
  t46 := Tryz.underlying149
  a46 := Tryz.isAgg149
  z46 := Tryz.sizeOf149
  v46 := Tryz.zeroValue149
  t51 := Tryz.underlying151
  a51 := Tryz.isAgg151
  z51 := Tryz.sizeOf151
  v51 := Tryz.zeroValue151
  t53 := Tryz.underlying31
  a53 := Tryz.isAgg31
  z53 := Tryz.sizeOf31
  v53 := Tryz.zeroValue31
  t131 := Tryz.underlying160
  a131 := Tryz.isAgg160
  z131 := Tryz.sizeOf160
  v131 := Tryz.zeroValue160
  t182 := Tryz.underlying154
  a182 := Tryz.isAgg154
  z182 := Tryz.sizeOf154
  v182 := Tryz.zeroValue154
  t183 := Tryz.underlying155
  a183 := Tryz.isAgg155
  z183 := Tryz.sizeOf155
  v183 := Tryz.zeroValue155
  t218 := Tryz.underlying166
  a218 := Tryz.isAgg166
  z218 := Tryz.sizeOf166
  v218 := Tryz.zeroValue166
  t222 := Tryz.underlying170
  a222 := Tryz.isAgg170
  z222 := Tryz.sizeOf170
  v222 := Tryz.zeroValue170
  t228 := Tryz.underlying173
  a228 := Tryz.isAgg173
  z228 := Tryz.sizeOf173
  v228 := Tryz.zeroValue173
  t229 := Tryz.underlying174
  a229 := Tryz.isAgg174
  z229 := Tryz.sizeOf174
  v229 := Tryz.zeroValue174 }
open Go.Sort Go.RowKit in
theorem Tryz.slices_Sort_string (blk off cap : Nat) (ss : List (List UInt8)) (w : World) (hH : Holds encStr w blk off ss.toArray) (hblk : blk < w.heap.size) (hsz : ss.length < 4611686018427387904) :
    Calls Tryz.prog 89 #[.slice (some ⟨blk, off, none⟩) ss.length cap] w fun e w' =>
      e = .returned (.tuple #[]) ∧ ∃ n os, w' = grow (putRow encStr (Sort.ahead w n) blk off (ss.mergeSort fun x y => decide (x ≤ y)).toArray) os := Any.slices_Sort_string Tryz.lays190 blk off cap ss w hH hblk hsz
open Go.RowKit Go.Sort in
theorem Tryz.slices_Sort_string_none (p : Option Addr) (cap : Nat) (w : World) :
    Calls Tryz.prog 89 #[.slice p 0 cap] w fun e w' => e = .returned (.tuple #[]) ∧ w' = w := Any.slices_Sort_string_none Tryz.lays190 p cap w
end Go.Proofs

set_option linter.unusedSimpArgs false
set_option linter.unusedVariables false
namespace Go.Proofs.YtijpokajhjhllaaGreatDoor
open Go Go.RowKit Go.Tum Go.ChangeMaps
open Go.ParB (upd Lof)
open Go.ParE (putS slotsR slots Closed)

theorem infoStr : (Tryz.prog.info? 9).map (fun i => (i.zero, i.size, i.bytes)) = some (some (.string ⟨#[]⟩), 1, 16) := by kernel_rfl
theorem vN_one (x : Nm) : (vN x).oneCell' = true := rfl
abbrev leN (x y : Nm) : Bool := decide (x ≤ y)
theorem sorted_merge {d : Dir} (h : Sorted d) {ss : List Nm} (hp : ss.Perm (d.map Prod.fst)) : ss.mergeSort (fun x y => decide (x ≤ y)) = d.map Prod.fst := by
  have h1 : ss.mergeSort leB = (d.map Prod.fst).mergeSort leB := mergeSort_of_perm hp
  have h2 : (d.map Prod.fst).mergeSort leB = d.map Prod.fst := by
    refine List.mergeSort_of_pairwise ?_
    rw [List.pairwise_map]
    refine List.Pairwise.imp ?_ h
    intro a b hlt
    simp only [leB, decide_eq_true_eq]
    exact List.le_of_lt hlt
  exact h1.trans h2
def NamsP (w : World) (d : List Nm) (e : Ending) (w' : World) : Prop := (∃ v, e = .returned v ∧ OwV vN w' w.heap.size 9 v d) ∧ Ext w w'
theorem noN_perm {n : Nm} {b : Nat} : ∀ {d : Dir}, (n, b) ∈ d → (d.map Prod.fst).Nodup → ([n] ++ (noN d n).map Prod.fst).Perm (d.map Prod.fst)
  | [], h, _ => absurd h (by simp)
  | (a, c) :: r, h, hn => by
    rw [List.map_cons, List.nodup_cons] at hn
    by_cases e : a = n
    · subst e
      have : noN ((a, c) :: r) a = r := by
        unfold noN
        rw [List.filter_cons]
        simp only [bne_self_eq_false, Bool.false_eq_true, if_false]
        refine List.filter_eq_self.2 fun q hq => ?_
        have : q.1 ≠ a := fun e => hn.1 (List.mem_map.2 ⟨q, hq, e⟩)
        simpa using this
      rw [this]; exact List.Perm.refl _
    · have e2 : noN ((a, c) :: r) n = (a, c) :: noN r n := by
        unfold noN
        rw [List.filter_cons]
        simp [e]
      have h2 : (n, b) ∈ r := by
        rcases List.mem_cons.1 h with e3 | e3
        · cases e3; exact absurd rfl e
        · exact e3
      rw [e2, List.map_cons, List.map_cons]
      exact (List.Perm.swap _ _ _).trans (List.Perm.cons a (noN_perm h2 hn.2))
theorem RNG.nd {w : World} {m r cnt : Nat} {l rem : Dir} (h : RNG w m r l rem cnt) : (rem.map Prod.fst).Nodup := by
  obtain ⟨D, left, n, h1, h2, h3, h4, h5, h6⟩ := h
  rw [h3]
  exact (List.filter_sublist.map Prod.fst).nodup h4
theorem HRG3 {w w3 : World} {m r cnt g : Nat} {l rem : Dir} {ss : List Nm} {v : Value} {o : Obj} (h : RNG w m r l rem cnt) (ho : OwV vN w g 9 v ss) (f : Fr (oB v) (w.alloc o) w3) : RNG w3 m r l rem cnt := by
  have h1 := h.kept (S := []) (Ext.fr (Ext.alloc w o)) (by simp) (by simp)
  have ho1 := ho.ext (Ext.alloc w o)
  refine h1.kept f ?_ ?_
  · obtain ⟨D, left, nn, ⟨es, clock, since, seen, c0, hb, rest⟩, -⟩ := h1
    exact row_no ho1 hb (by intro cs e; cases e)
  · obtain ⟨D, left, nn, ⟨es, clock, since, seen, c0, hb, F, hs, hD, hr2, rest⟩, -⟩ := h1
    exact row_no ho1 hr2 (by intro cs e; cases e)
set_option maxRecDepth 100000 in
set_option maxHeartbeats 2000000 in
theorem dnames_any (w : World) (m : Nat) (l : Dir) (h : PM w m l) (hs : Sorted l) (hl : l.length ≤ 1000) :
    Calls Tryz.prog 51 #[.map (some m)] w fun e w' => NamsP w (l.map Prod.fst) e w' := by
  have HM := hid h
  have HND := hid (sorted_nodup hs)
  have HS := hid hs
  clear h hs
  go_enter Tryz.func51, Tryz.ntmps51
  go_wp2_with (at_range; refine wpList_range_PM _ rfl _ rfl m l rfl HM.out HND.out ?_; intro w0 hrg0 hE0; have HRG := hid hrg0; have HE0 := hid hE0; clear hrg0 hE0)
  obtain ⟨r, hr⟩ : ∃ r, w.heap.size = r := ⟨_, rfl⟩
  rw [hr] at HRG ⊢
  have HR := hid hr
  clear hr
  go_frame
  go_loopw [3] (fun v wr => ∃ (rem : Dir) (cnt : Nat) (ss : List Nm) (ao : Option Addr) (cap : Nat), v = .slice ao ss.length cap ∧ Hid (OwV vN wr w.heap.size 9 (.slice ao ss.length cap) ss) ∧ Hid (RNG wr m r l rem cnt) ∧ Hid ((ss ++ rem.map Prod.fst).Perm (l.map Prod.fst)) ∧ Hid (Ext w wr)) (fun _ wr => wr.rangeLeft m r)
  case atStart => exact ⟨l, _, [], none, 0, rfl, OwV.nil _ _ _, HRG, hid (List.Perm.refl _), HE0⟩
  case round =>
    obtain ⟨rem, cnt, ss, ao, cap, rfl, HO, HRG, HP, HE⟩ := hrel
    have hsl : ss.length + rem.length = l.length := by have := HP.out.length_eq; simpa using this
    have HSL := hid hsl
    clear hsl
    go_wp2_with (first
      | (at_next; refine wpList_next_RNG _ rfl _ rfl m r cnt l rem rfl HRG.out ?_ ?_))
    · intro h0
      subst h0
      have hperm : ss.Perm (l.map Prod.fst) := by have := HP.out; simpa using this
      have HPM := hid hperm
      have HSS : Hid (ss.mergeSort (fun x y => decide (x ≤ y)) = l.map Prod.fst) := hid (sorted_merge HS.out hperm)
      clear hperm
      rcases HO.out.2 with ⟨hv, hn0⟩ | ⟨g, cap', cur, hv, hb, hgg, q1, q2, q3, q4⟩
      · have hs0 : ss = [] := List.length_eq_zero_iff.1 (by simpa using hn0)
        subst hs0
        cases hv
        have hs0 : ([] : List Nm) = [] := rfl
        have hl0 : l.map Prod.fst = [] := by exact (List.nil_perm.1 HPM.out)
        have HL0 := hid hl0
        clear hn0 hl0
        go_wp2_with fail
        refine (Tryz.slices_Sort_string_none none 0 _).mono ?_
        rintro e w9 ⟨rfl, rfl⟩
        go_wp2
        go_ret
        rw [HL0.out]
        exact ⟨⟨_, rfl, OwV.nil _ _ _⟩, HE.out⟩
      · cases hv
        have hc := Tryz.slices_Sort_string g 0 cap ss wr (holds_of_block hgg (by have := q4; rw [Nat.mul_one] at this; exact this)) (Array.getElem?_eq_some_iff.1 hgg).1 (by have := HSL.out; omega)
        have HC := hid hc
        have HG := hid (And.intro hb (And.intro hgg (And.intro q1 (And.intro q2 q3))))
        clear hc hb hgg q1 q2 q3 q4
        go_wp2_with fail
        refine HC.out.mono ?_
        rintro e w9 ⟨rfl, nn, os, hw9⟩
        have HW9 : Hid (OwV vN w9 w.heap.size 9 (.slice (some ⟨g, 0, none⟩) ss.length cap) (l.map Prod.fst)) := hid (by
          obtain ⟨k1, k2, k3, k4, k5⟩ := HG.out
          have hlen : (l.map Prod.fst).length = ss.length := HPM.out.length_eq.symm
          rw [HSS.out] at hw9
          subst hw9
          unfold OwV
          rw [hlen]
          exact Go.ownsRow_sorted hlen k1 k2 (by have := k3; omega) k4 (by have := k5; simpa using this))
        have HF9 : Hid (Ext w w9) := hid (by
          obtain ⟨k1, -⟩ := HG.out
          subst hw9
          exact Below.trans HE.out ((Below.refl _ wr).grown (grownBy_sorted _) HE.out.size fun j hj => by cases hj; exact k1))
        clear hw9
        go_wp2
        go_ret
        exact ⟨⟨_, rfl, HW9.out⟩, HF9.out⟩
    · intro n b w' cnt' k1 k2 k3 k4 k5 k6 k7
      have hrit : r ∉ oB (.slice ao ss.length cap) := by
        obtain ⟨D, left, nn, ⟨es, clock, since, seen, c0, hb, F, hs, hD, hr2, rest⟩, -⟩ := HRG.out
        exact row_no HO.out hr2 (by intro cs e; cases e)
      have HO2 : Hid (OwV vN w' w.heap.size 9 (.slice ao ss.length cap) ss) := hid (ownsRow_fr HO.out k6 (fun q hq hq2 => by
        obtain rfl : q = r := by simpa using hq2
        exact hrit hq))
      have HE2 : Hid (Ext w w') := hid (Below.trans HE.out (k6.below (by simp; have := HR.out; omega) HE.out.size))
      have hpn : ((ss ++ [n]) ++ (noN rem n).map Prod.fst).Perm (l.map Prod.fst) := by
        refine List.Perm.trans ?_ HP.out
        rw [List.append_assoc]
        exact List.Perm.append_left ss (noN_perm k1 HRG.out.nd)
      have HP2 := hid hpn
      have HRG2 := hid k4
      have HK5 := hid (show w'.rangeLeft m r < wr.rangeLeft m r by rw [k4.left, HRG.out.left]; exact k5)
      have hssl : ss.length ≤ 1000 := by have := HSL.out; omega
      clear k1 k2 k3 k4 k5 k6 hrit hpn
      go_wp2_with (at_builtin; refine wpList_append_vec vN_one rfl (.tmp 11) (.tmp 13) 59 rfl w.heap.size 9 Tryz.underlying59 infoStr rfl rfl (HO2.out.ext (Ext.alloc _ _)) rfl (Vec.one _ _ _ n rfl) (ss.length + 1) (by simp) (by omega) (by omega) (Nat.le_trans HE2.out.size (by simp)) ?_; intro ao3 cap3 w3 hO3 hg3 hb3; have HO3 := hid hO3; have HG3 := hid hg3; have HE3 : Hid (Ext w w3) := hid (Below.trans (HE2.out.trans (Ext.alloc _ _)) hb3); have HF3 : Hid (Fr (oB (.slice ao ss.length cap)) (w'.alloc (.cells #[vN n] 9)) w3) := hid (fr_grown hg3 hb3); clear hO3 hg3 hb3)
      go_roundw
      case rel => exact ⟨noN rem n, cnt', ss ++ [n], ao3, cap3, by simp, by simpa using HO3, HRG3 HRG2.out HO2.out HF3.out, HP2, HE3⟩
      case measure => rw [(HRG3 HRG2.out HO2.out HF3.out).left, ← HRG2.out.left]; exact HK5.out
set_option maxRecDepth 100000 in
theorem dNames_any {B : Nat} {w : World} {p : Nat} {x : DX} {s : PS} (h : Dk B w p x s) :
    Calls Tryz.prog 28 #[pv p] w fun e w' => NamsP w (s.dir.map Prod.fst) e w' := by
  obtain ⟨⟨-, c1, -⟩, -⟩ := lk6 h.hd
  have hn := dnames_any w x.md (x.hb s.dir) h.dr (hb_sorted h.gd.dirs) (by rw [hb_len]; have := h.gd.dl; omega)
  rw [hb_fst] at hn
  clear h
  go_enter Tryz.func28, Tryz.ntmps28
  go_wp2_with fail
  refine hn.mono ?_
  rintro e w2 ⟨⟨v, rfl, ho⟩, hE⟩
  have HO := hid ho
  have HE := hid hE
  clear ho hE hn
  go_wp2
  go_ret
  exact ⟨⟨_, rfl, HO.out⟩, HE.out⟩
end Go.Proofs.YtijpokajhjhllaaGreatDoor

set_option linter.unusedSimpArgs false
set_option linter.unusedVariables false
namespace Go.Proofs.YtijpokajhjhllaaGreatDoor
open Go Go.RowKit Go.Tum Go.ChangeMaps
open Go.ParB (upd Lof)
open Go.ParE (putS slotsR slots Closed)

set_option maxRecDepth 100000 in
set_option maxHeartbeats 1000000 in
theorem fcrash_any (w : World) (bf : Nat) (fo : Option Addr) (fl fc m0 : Nat) (t : Int) (ht : -9223372036854775808 ≤ t ∧ t ≤ 9223372036854775807) (h : w.heap[bf]? = some (fileO (.slice fo fl fc) m0)) (h1 : m0 ≤ fl) (h2 : fl ≤ fc) (h3 : fl ≤ 1048576) (k : Nat) (hk : k = m0 + (min (max t 0) ((fl : Int) - m0)).toNat) :
    Calls Tryz.prog 52 #[bp bf, .int .i64 t] w fun e w' => (∃ u, e = .returned u) ∧ w'.heap[bf]? = some (fileO (.slice fo k fc) k) ∧ Fr [bf] w w' := by
  have HB := hid h
  obtain ⟨c0, c1, -⟩ := lk2 h
  have C0 := hid c0
  have C1 := hid c1
  obtain ⟨tm, htm⟩ : ∃ tm : Nat, min (max t 0) ((fl : Int) - m0) = (tm : Int) := ⟨(min (max t 0) ((fl : Int) - m0)).toNat, by omega⟩
  have hkm : k = m0 + tm := by rw [hk, htm]; omega
  have hkf : k ≤ fl := by omega
  have HKM := hid hkm
  have HKF := hid hkf
  have hw1 : IntKind.i64.wrap ((fl : Int) - (m0 : Int)) = (fl : Int) - (m0 : Int) := IntWalk.i64_in _ (by omega)
  have hw2 : IntKind.i64.wrap ((m0 : Int) + min (max t 0) ((fl : Int) - (m0 : Int))) = (k : Int) := by rw [htm, IntWalk.i64_in _ (by omega)]; omega
  have hkc : k ≤ fc := by omega
  have HKC := hid hkc
  clear h hk htm hkm hkf hkc h1 h2 h3 ht
  go_enter Tryz.func52, Tryz.ntmps52
  go_wp2_with fail
  go_quiet (fail)
  obtain ⟨W, hW⟩ : ∃ W, w.drewN nq = W := ⟨_, rfl⟩
  have hX : Ext w W := by rw [← hW]; exact Ext.drewN _ _
  rw [hW]
  clear hW c0 c1
  have HX := hid hX
  have hb := hX.obj HB.out
  obtain ⟨-, c1, ff⟩ := lk2 hb
  have f1 := ff 1
  have HB1 := hid hb
  have hb2 := box_set21 hb (.int .i64 (k : Int))
  have HF2 : Hid (Fr [bf] w (W.setCell ⟨bf, 1, none⟩ (.int .i64 (k : Int)))) := hid ((Ext.fr hX).trans (fr_setCell _ _ _ (by simp)))
  have HB2 := hid hb2
  clear hX hb ff hb2 hw1
  go_wp2_with fail
  obtain ⟨W2, hW2⟩ : ∃ W2, W.setCell ⟨bf, 1, none⟩ (.int .i64 (k : Int)) = W2 := ⟨_, rfl⟩
  rw [hW2] at HF2 HB2 ⊢
  clear hW2 c1 f1
  have D0 := hid (lk2 HB2.out).1
  have D1 := hid (lk2 HB2.out).2.1
  have hkc : k ≤ fc := HKC.out
  refine ParE.wp_region_e (l := [_, _, _, _, _, _, _, _, _, _, _, _, _]) rfl (Rg.R1 W2 12 (fun w' => w'.heap[bf]? = some (fileO (.slice fo k fc) k) ∧ Fr [bf] W2 w')) (ParC.VC [ParC.EQ (bp bf), ParC.EQ (bp bf), ParC.EQ (bp bf), ParC.EQ (bp bf), ParC.EQ (Value.slice fo fl fc), ParC.EQ (bp bf), ParC.EQ (bp bf), ParC.EQ (Value.pointer (some ⟨bf, 1, none⟩)), ParC.EQ (Value.int IntKind.i64 (k : Int)), ParC.EQ (Value.slice fo k fc), ParC.EQ (bp bf), ParC.EQ (bp bf), fun _ => True]) (by kernel_rfl) (by kernel_rfl) (Rg.R1.start) ?_ ?_
  · refine ⟨fun L ρ w' hR hC hL hd hk => ?_, ?_⟩
    · exact Par.val_of_run rfl ⟨hR.other (by decide), hk.1⟩
    refine ⟨fun L ρ w' hR hC hL hd hk => ?_, ?_⟩
    · exact Par.val_of_run rfl ⟨hR.other (by decide), hk.1⟩
    refine ⟨fun L ρ w' hR hC hL hd hk => ?_, ?_⟩
    · obtain ⟨k0, -⟩ := hk
      have e0 : ρ (.tmp 26) = bp bf := k0
      clear k0
      refine Par.val_k fun K hK => ?_
      unfold Par.val
      (go_simp; exact hK _ _ ⟨hR.other (by decide), rfl⟩)
    refine ⟨fun L ρ w' hR hC hL hd hk => ?_, ?_⟩
    · obtain ⟨k0, -⟩ := hk
      have e0 : ρ (.tmp 27) = bp bf := k0
      clear k0
      refine Par.val_k fun K hK => ?_
      unfold Par.val
      (go_simp; exact hK _ _ ⟨hR.other (by decide), rfl⟩)
    refine ⟨fun L ρ w' hR hC hL hd hk => ?_, ?_⟩
    · obtain ⟨k0, -⟩ := hk
      have e0 : ρ (.tmp 28) = bp bf := k0
      clear k0
      refine Par.val_k fun K hK => ?_
      unfold Par.val
      (have hx := hR.a (hC.notyet 12 4 hL (by kernel_rfl)); have cc := hx.cell D0.out; go_simp; exact hK _ _ ⟨hR.other (by decide), rfl⟩)
    refine ⟨fun L ρ w' hR hC hL hd hk => ?_, ?_⟩
    · exact Par.val_of_run rfl ⟨hR.other (by decide), hk.1⟩
    refine ⟨fun L ρ w' hR hC hL hd hk => ?_, ?_⟩
    · obtain ⟨k0, -⟩ := hk
      have e0 : ρ (.tmp 30) = bp bf := k0
      clear k0
      refine Par.val_k fun K hK => ?_
      unfold Par.val
      (go_simp; exact hK _ _ ⟨hR.other (by decide), rfl⟩)
    refine ⟨fun L ρ w' hR hC hL hd hk => ?_, ?_⟩
    · obtain ⟨k0, -⟩ := hk
      have e0 : ρ (.tmp 31) = bp bf := k0
      clear k0
      refine Par.val_k fun K hK => ?_
      unfold Par.val
      (go_simp; exact hK _ _ ⟨hR.other (by decide), rfl⟩)
    refine ⟨fun L ρ w' hR hC hL hd hk => ?_, ?_⟩
    · obtain ⟨k0, -⟩ := hk
      have e0 : ρ (.tmp 32) = Value.pointer (some ⟨bf, 1, none⟩) := k0
      clear k0
      refine Par.val_k fun K hK => ?_
      unfold Par.val
      (have hx := hR.a (hC.notyet 12 8 hL (by kernel_rfl)); have cc := hx.cell D1.out; go_simp; exact hK _ _ ⟨hR.other (by decide), rfl⟩)
    refine ⟨fun L ρ w' hR hC hL hd hk => ?_, ?_⟩
    · obtain ⟨k0, k1, -⟩ := hk
      have e0 : ρ (.tmp 29) = Value.slice fo fl fc := k0
      have e1 : ρ (.tmp 33) = Value.int IntKind.i64 (k : Int) := k1
      clear k0 k1
      refine Par.val_k fun K hK => ?_
      unfold Par.val
      (go_simp; exact hK _ _ ⟨hR.other (by decide), rfl⟩)
    refine ⟨fun L ρ w' hR hC hL hd hk => ?_, ?_⟩
    · obtain ⟨k0, -⟩ := hk
      have e0 : ρ (.tmp 25) = bp bf := k0
      clear k0
      refine Par.val_k fun K hK => ?_
      unfold Par.val
      (go_simp; exact hK _ _ ⟨hR.other (by decide), rfl⟩)
    refine ⟨fun L ρ w' hR hC hL hd hk => ?_, ?_⟩
    · obtain ⟨k0, -⟩ := hk
      have e0 : ρ (.tmp 35) = bp bf := k0
      clear k0
      refine Par.val_k fun K hK => ?_
      unfold Par.val
      (go_simp; exact hK _ _ ⟨hR.other (by decide), rfl⟩)
    refine ⟨fun L ρ w' hR hC hL hd hk => ?_, ?_⟩
    · obtain ⟨k0, k1, -⟩ := hk
      have e0 : ρ (.tmp 36) = bp bf := k0
      have e1 : ρ (.tmp 34) = Value.slice fo k fc := k1
      clear k0 k1
      refine Par.val_k fun K hK => ?_
      unfold Par.val
      (have hx := hR.a hL; have hb2 := hx.obj HB2.out; obtain ⟨cc, -, ff⟩ := lk2 hb2; have f0 := ff 0; have g1 := box_set2 hb2 (.slice fo k fc); clear ff; go_simp; exact hK _ _ ⟨Rg.R1.last ⟨g1, (Ext.fr hx).trans (fr_setCell _ _ _ (by simp))⟩, trivial⟩)
    trivial
  intro a' w' inv hR
  have q25 : a'.tmps.getD 25 undef = bp bf := inv.done 0 _ 25 rfl rfl rfl
  have q26 : a'.tmps.getD 26 undef = bp bf := inv.done 1 _ 26 rfl rfl rfl
  have q27 : a'.tmps.getD 27 undef = bp bf := inv.done 2 _ 27 rfl rfl rfl
  have q28 : a'.tmps.getD 28 undef = bp bf := inv.done 3 _ 28 rfl rfl rfl
  have q29 : a'.tmps.getD 29 undef = Value.slice fo fl fc := inv.done 4 _ 29 rfl rfl rfl
  have q30 : a'.tmps.getD 30 undef = bp bf := inv.done 5 _ 30 rfl rfl rfl
  have q31 : a'.tmps.getD 31 undef = bp bf := inv.done 6 _ 31 rfl rfl rfl
  have q32 : a'.tmps.getD 32 undef = Value.pointer (some ⟨bf, 1, none⟩) := inv.done 7 _ 32 rfl rfl rfl
  have q33 : a'.tmps.getD 33 undef = Value.int IntKind.i64 (k : Int) := inv.done 8 _ 33 rfl rfl rfl
  have q34 : a'.tmps.getD 34 undef = Value.slice fo k fc := inv.done 9 _ 34 rfl rfl rfl
  have q35 : a'.tmps.getD 35 undef = bp bf := inv.done 10 _ 35 rfl rfl rfl
  have q36 : a'.tmps.getD 36 undef = bp bf := inv.done 11 _ 36 rfl rfl rfl
  clear inv
  simp only [List.filterMap_cons, List.filterMap_nil, Par.putAll, Act.put, List.setIfInBounds_toArray, List.set_cons_succ, List.set_cons_zero, q25, q26, q27, q28, q29, q30, q31, q32, q33, q34, q35, q36]
  clear q25 q26 q27 q28 q29 q30 q31 q32 q33 q34 q35 q36
  try clear a'
  obtain ⟨g1, g2⟩ := hR.z rfl
  have G := hid (And.intro g1 (HF2.out.trans g2))
  clear hR g1 g2
  go_wp2
  go_returns
  exact ⟨⟨_, rfl⟩, G.out.1, G.out.2⟩
/-- The files of a disk. -/
structure Fls (B : Nat) (w : World) (x : DX) (fs : List (List UInt8 × Nat)) : Prop where
  fn : x.bl.length = fs.length
  fi : ∀ i (h : i < fs.length), w.heap[x.bk i]? = some (fileO (x.sv i) fs[i].2) ∧ Own w B 5 (x.sv i) fs[i].1
  fd : (x.bl.map Prod.fst).Nodup
  od : ∀ i j, i < fs.length → j < fs.length → i ≠ j → ∀ g, (x.sv i).ownBlock = some g → (x.sv j).ownBlock ≠ some g
  lo : ∀ i, i < fs.length → B ≤ x.bk i
  sz : ∀ y ∈ fs, y.2 ≤ y.1.length ∧ y.1.length ≤ 1048576
theorem Dk.fls {B : Nat} {w : World} {p : Nat} {x : DX} {s : PS} (h : Dk B w p x s) : Fls B w x s.files := ⟨h.fn, h.fi, h.fd, h.od, h.lo.2.2.2, h.gd.fl⟩
section
variable {B : Nat} {w w' : World} {x : DX} {fs : List (List UInt8 × Nat)}
theorem Fls.fr (h : Fls B w x fs) {S : List Nat} (f : Fr S w w') (hs : ∀ q ∈ S, ∃ o, w.heap[q]? = some o ∧ (∀ cs, o ≠ .cells cs 104 (0, 0)) ∧ ∀ cs, o ≠ .cells cs 5 (0, 0)) : Fls B w' x fs := by
  refine ⟨h.fn, fun i hi => ?_, h.fd, h.od, h.lo, h.sz⟩
  obtain ⟨a, b⟩ := h.fi i hi
  refine ⟨(f.block _ (Array.getElem?_eq_some_iff.1 a).1 fun hm => ?_).trans a, ownsRow_fr2 b f fun q hq => ?_⟩
  · obtain ⟨o, ho, hn, -⟩ := hs _ hm
    rw [a] at ho; cases ho; exact hn _ rfl
  · obtain ⟨o, ho, -, hn⟩ := hs q hq
    exact ⟨o, ho, hn⟩
theorem Fls.bk_ne (h : Fls B w x fs) {i j : Nat} (hi : i < fs.length) (hj : j < fs.length) (hij : i ≠ j) : x.bk i ≠ x.bk j := by
  intro e
  have h1 : i < x.bl.length := by rw [h.fn]; exact hi
  have h2 : j < x.bl.length := by rw [h.fn]; exact hj
  have e1 : x.bk i = (x.bl.map Prod.fst)[i]'(by simpa using h1) := by simp [DX.bk, List.getD_eq_getElem?_getD, h1]
  have e2 : x.bk j = (x.bl.map Prod.fst)[j]'(by simpa using h2) := by simp [DX.bk, List.getD_eq_getElem?_getD, h2]
  rw [e1, e2] at e
  exact hij ((List.getElem_inj h.fd).1 e)
theorem Fls.file (h : Fls B w x fs) {f : Nat} (hf : f < fs.length) : ∃ ao cap, w.heap[x.bk f]? = some (fileO (.slice ao (flen fs f) cap) (fs.getD f ([], 0)).2) ∧ x.sv f = .slice ao (flen fs f) cap ∧ Own w B 5 (.slice ao (flen fs f) cap) (fs.getD f ([], 0)).1 := by
  obtain ⟨a, b⟩ := h.fi f hf
  obtain ⟨ao, cap, e⟩ := row_shape b
  have e2 : fs.getD f ([], 0) = fs[f] := by rw [List.getD_eq_getElem?_getD, List.getElem?_eq_getElem hf]; rfl
  have e3 : flen fs f = fs[f].1.length := by unfold flen; rw [e2]
  refine ⟨ao, cap, ?_, ?_, ?_⟩
  · rw [e3, ← e, e2]; exact a
  · rw [e3]; exact e
  · rw [e3, ← e, e2]; exact b
/-- A file is cut to what is sure. -/
theorem Fls.cut (h : Fls B w x fs) {f : Nat} (hf : f < fs.length) (t : Int) {fo : Option Addr} {fc k : Nat} (hsv : x.sv f = .slice fo (flen fs f) fc) (hk : k = (fs.getD f ([], 0)).2 + (min (max t 0) ((flen fs f : Int) - ((fs.getD f ([], 0)).2 : Int))).toNat)
    (hb : w'.heap[x.bk f]? = some (fileO (.slice fo k fc) k)) (F : Fr [x.bk f] w w') : Fls B w' (x.setV f (.slice fo k fc)) (fs.modify f (crF t)) ∧ oB (.slice fo k fc) = oB (x.sv f) := by
  have hfx : f < x.bl.length := by rw [h.fn]; exact hf
  obtain ⟨a0, b0⟩ := h.fi f hf
  have e2 : fs.getD f ([], 0) = fs[f] := by rw [List.getD_eq_getElem?_getD, List.getElem?_eq_getElem hf]; rfl
  have e3 : flen fs f = fs[f].1.length := by unfold flen; rw [e2]
  have hsz := h.sz fs[f] (List.getElem_mem hf)
  rw [e2] at hk
  have hkl : k ≤ flen fs f := by rw [hk, e3]; omega
  have hoB : oB (.slice fo k fc) = oB (x.sv f) := by rw [hsv]; cases fo <;> rfl
  have hcr : crF t fs[f] = (fs[f].1.take k, k) := by unfold crF; rw [hk, e3]
  have hown : Own w' B 5 (.slice fo k fc) (fs[f].1.take k) := by
    have h1 : Own w' B 5 (x.sv f) fs[f].1 := ownsRow_fr b0 F fun q hq hq2 => by
      obtain rfl : q = x.bk f := by simpa using hq2
      exact row_no b0 a0 (by intro cs e; simp at e) hq
    rw [hsv] at h1
    refine own_take h1 k hkl fun e => ?_
    obtain ⟨ao, cap, e5, h6, -, h5, -⟩ := h1.byt.open
    simp only [Value.slice.injEq] at e5
    obtain ⟨rfl, -, rfl⟩ := e5
    have hc0 : fc = 0 := by
      rcases Nat.eq_zero_or_pos fc with h | h
      · exact h
      · obtain ⟨a, ha⟩ := h5 h; rw [e] at ha; cases ha
    exact ⟨by omega, hc0⟩
  refine ⟨⟨?_, fun i hi => ?_, ?_, fun i j hi hj hij g hg => ?_, fun i hi => by rw [setV_bk]; exact h.lo i (by simpa using hi), fun y hy => ?_⟩, hoB⟩
  · simp [DX.setV, h.fn]
  · have hi2 : i < fs.length := by simpa using hi
    rw [setV_bk, setV_sv hfx, modify_at hi hi2, e2]
    by_cases e : i = f
    · subst e
      rw [if_pos rfl, if_pos rfl, hcr]
      exact ⟨hb, hown⟩
    · rw [if_neg e, if_neg e]
      obtain ⟨a, b⟩ := h.fi i hi2
      refine ⟨(F.block _ (Array.getElem?_eq_some_iff.1 a).1 (by simpa using h.bk_ne hi2 hf e)).trans a, ownsRow_fr b F fun q hq hq2 => ?_⟩
      obtain rfl : q = x.bk f := by simpa using hq2
      exact row_no b a0 (by intro cs e; simp at e) hq
  · rw [setV_fst hfx]; exact h.fd
  · have hi2 : i < fs.length := by simpa using hi
    have hj2 : j < fs.length := by simpa using hj
    rw [setV_sv hfx] at hg ⊢
    have hE : (Value.slice fo k fc).ownBlock = (x.sv f).ownBlock := by rw [hsv]; cases fo <;> rfl
    have e1 : ∀ q, (if q = f then Value.slice fo k fc else x.sv q).ownBlock = (x.sv q).ownBlock := fun q => by
      split
      · rename_i e; rw [e]; exact hE
      · rfl
    rw [e1] at hg ⊢
    exact h.od i j hi2 hj2 hij g hg
  · obtain ⟨i, hi, e⟩ := List.mem_iff_getElem.1 hy
    have hi2 : i < fs.length := by simpa using hi
    rw [modify_at hi hi2, e2] at e
    split at e
    · rw [← e, hcr]
      simp only [List.length_take]
      omega
    · rw [← e]; exact h.sz _ (List.getElem_mem hi2)
end
end Go.Proofs.YtijpokajhjhllaaGreatDoor

