/- The laws' 'do' and 'large'. -/
import Derived.Test.YtkaafllbmeppnaaDskAt
set_option linter.unusedSimpArgs false
set_option linter.unusedVariables false
namespace Go.Proofs.Ytkaafllbmeppnaa
open Go Go.RowKit Go.Tum Go.ChangeMaps

def actS (s : PS) (a : At) : Nat × PS :=
  if a.dn = 0 then creP s a.name else if a.dn = 1 then appP s a.name a.b else if a.dn = 2 then synP s a.name else if a.dn = 3 then cutP s a.name a.n else
  if a.dn = 4 then renP s a.name a.to else if a.dn = 5 then delP s a.name else if a.dn = 6 then dsyP s else if a.dn = 7 then (0, fusP s a.n) else if a.dn = 8 then (0, crP s a.n a.ts) else (rdE s a.name, s)
def actB (s : PS) (a : At) : List UInt8 := if 0 ≤ a.dn ∧ a.dn ≤ 8 then [] else rdB s a.name
theorem WF.act {s : PS} (h : WF s) (a : At) (hn : i64 a.n) : WF (actS s a).2 := by
  unfold actS
  repeat' split
  · exact h.cre _
  · exact h.app _ _
  · exact h.syn _
  · exact h.cut _ _
  · exact h.ren _ _
  · exact h.del _
  · exact h.dsy
  · exact h.fus _ hn.2
  · exact h.cra _ _
  · exact h
def DoA (B : Nat) (w : World) (p : Nat) (x : DX) (s : PS) (a : At) (e : Ending) (w' : World) : Prop :=
  (∃ v, e = .returned (.tuple #[v, .int .i64 ((actS s a).1 : Nat)]) ∧ Own w' w.heap.size 5 v (actB s a)) ∧ Stp B w p x (actS s a).2 w'
abbrev actV (q : AtV) : Value := .agg #[.int .i64 q.1.dn, .int .i64 q.1.n, vN q.1.name, vN q.1.to, q.2.1, q.2.2]
theorem own_nilE (w : World) (b : Nat) : Own w b 5 (.slice none 0 0) [] := Own.nil _ _ _

set_option maxRecDepth 100000 in
set_option maxHeartbeats 1000000 in
theorem do0_any {B : Nat} {w : World} {p : Nat} {x : DX} {s : PS} (dn n : Int) (name to : Nm) (b : List UInt8) (ts : List Int) (uo : Option Addr) (uc : Nat) (vo : Option Addr) (vc : Nat) (hk : name.length ≤ maxLen) (hk2 : to.length ≤ maxLen) (hn : i64 n) (hu : Byt w (.slice uo b.length uc) b) (hv : Vec Go.Tum.iv w (.slice vo ts.length vc) ts) (hts : ∀ t ∈ ts, i64 t)
    (h : Dk B w p x s) (hB : B ≤ w.heap.size) (hl : s.opn.length ≤ 100000) (hbl : b.length ≤ 1048576) (hlow : ∀ a, vo = some a → ts ≠ [] → a.block < B) (hg : Gd (actS s ⟨dn, n, name, to, b, ts⟩).2) (hd : dn = 0) :
    Calls Try.prog 12 #[pv p, .agg #[.int .i64 dn, .int .i64 n, vN name, vN to, .slice uo b.length uc, .slice vo ts.length vc]] w fun e w' => DoA B w p x s ⟨dn, n, name, to, b, ts⟩ e w' := by
  have E1 : Ext w (w.alloc (.cells #[.int .i64 dn, .int .i64 n, vN name, vN to, .slice uo b.length uc, .slice vo ts.length vc] 35 (0, 0))) := Ext.alloc _ _
  subst hd
  have HE := hid E1
  have H := hid (h.ext E1)
  have HU := hid (hu.ext E1)
  have HV := hid (hv.ext E1)
  have HB := hid hB
  have HB1 := hid (Nat.le_trans hB E1.size)
  have HG := hid hg
  have HN := hid hn
  have HTS := hid hts
  have HLW := hid hlow
  have HDL := hid h.low
  have HL := hid hl
  have HBL := hid hbl
  clear E1 h hu hv hB hg hn hts hlow hl hbl
  go_enter Try.func12, Try.ntmps12
  go_wp2_with fail
  refine (dcreate_any name hk H.out HB1.out HG.out HL.out).mono ?_
  rintro e w2 ⟨rfl, hs⟩
  have HS := hid hs
  clear hs
  go_wp2
  go_returns
  exact ⟨⟨_, rfl, own_nilE _ _⟩, (DoR.ext ⟨rfl, HS.out⟩ HE.out HB.out).2⟩

set_option maxRecDepth 100000 in
set_option maxHeartbeats 1000000 in
theorem do1_any {B : Nat} {w : World} {p : Nat} {x : DX} {s : PS} (dn n : Int) (name to : Nm) (b : List UInt8) (ts : List Int) (uo : Option Addr) (uc : Nat) (vo : Option Addr) (vc : Nat) (hk : name.length ≤ maxLen) (hk2 : to.length ≤ maxLen) (hn : i64 n) (hu : Byt w (.slice uo b.length uc) b) (hv : Vec Go.Tum.iv w (.slice vo ts.length vc) ts) (hts : ∀ t ∈ ts, i64 t)
    (h : Dk B w p x s) (hB : B ≤ w.heap.size) (hl : s.opn.length ≤ 100000) (hbl : b.length ≤ 1048576) (hlow : ∀ a, vo = some a → ts ≠ [] → a.block < B) (hg : Gd (actS s ⟨dn, n, name, to, b, ts⟩).2) (hd : dn = 1) :
    Calls Try.prog 12 #[pv p, .agg #[.int .i64 dn, .int .i64 n, vN name, vN to, .slice uo b.length uc, .slice vo ts.length vc]] w fun e w' => DoA B w p x s ⟨dn, n, name, to, b, ts⟩ e w' := by
  have E1 : Ext w (w.alloc (.cells #[.int .i64 dn, .int .i64 n, vN name, vN to, .slice uo b.length uc, .slice vo ts.length vc] 35 (0, 0))) := Ext.alloc _ _
  subst hd
  have HE := hid E1
  have H := hid (h.ext E1)
  have HU := hid (hu.ext E1)
  have HV := hid (hv.ext E1)
  have HB := hid hB
  have HB1 := hid (Nat.le_trans hB E1.size)
  have HG := hid hg
  have HN := hid hn
  have HTS := hid hts
  have HLW := hid hlow
  have HDL := hid h.low
  have HL := hid hl
  have HBL := hid hbl
  clear E1 h hu hv hB hg hn hts hlow hl hbl
  go_enter Try.func12, Try.ntmps12
  go_wp2_with fail
  refine (dappend_any name b _ hk HU.out HBL.out H.out HB1.out HG.out).mono ?_
  rintro e w2 ⟨rfl, hs⟩
  have HS := hid hs
  clear hs
  go_wp2
  go_returns
  exact ⟨⟨_, rfl, own_nilE _ _⟩, (DoR.ext ⟨rfl, HS.out⟩ HE.out HB.out).2⟩

set_option maxRecDepth 100000 in
set_option maxHeartbeats 1000000 in
theorem do2_any {B : Nat} {w : World} {p : Nat} {x : DX} {s : PS} (dn n : Int) (name to : Nm) (b : List UInt8) (ts : List Int) (uo : Option Addr) (uc : Nat) (vo : Option Addr) (vc : Nat) (hk : name.length ≤ maxLen) (hk2 : to.length ≤ maxLen) (hn : i64 n) (hu : Byt w (.slice uo b.length uc) b) (hv : Vec Go.Tum.iv w (.slice vo ts.length vc) ts) (hts : ∀ t ∈ ts, i64 t)
    (h : Dk B w p x s) (hB : B ≤ w.heap.size) (hl : s.opn.length ≤ 100000) (hbl : b.length ≤ 1048576) (hlow : ∀ a, vo = some a → ts ≠ [] → a.block < B) (hg : Gd (actS s ⟨dn, n, name, to, b, ts⟩).2) (hd : dn = 2) :
    Calls Try.prog 12 #[pv p, .agg #[.int .i64 dn, .int .i64 n, vN name, vN to, .slice uo b.length uc, .slice vo ts.length vc]] w fun e w' => DoA B w p x s ⟨dn, n, name, to, b, ts⟩ e w' := by
  have E1 : Ext w (w.alloc (.cells #[.int .i64 dn, .int .i64 n, vN name, vN to, .slice uo b.length uc, .slice vo ts.length vc] 35 (0, 0))) := Ext.alloc _ _
  subst hd
  have HE := hid E1
  have H := hid (h.ext E1)
  have HU := hid (hu.ext E1)
  have HV := hid (hv.ext E1)
  have HB := hid hB
  have HB1 := hid (Nat.le_trans hB E1.size)
  have HG := hid hg
  have HN := hid hn
  have HTS := hid hts
  have HLW := hid hlow
  have HDL := hid h.low
  have HL := hid hl
  have HBL := hid hbl
  clear E1 h hu hv hB hg hn hts hlow hl hbl
  go_enter Try.func12, Try.ntmps12
  go_wp2_with fail
  refine (dsync_any name hk H.out HB1.out HG.out).mono ?_
  rintro e w2 ⟨rfl, hs⟩
  have HS := hid hs
  clear hs
  go_wp2
  go_returns
  exact ⟨⟨_, rfl, own_nilE _ _⟩, (DoR.ext ⟨rfl, HS.out⟩ HE.out HB.out).2⟩

set_option maxRecDepth 100000 in
set_option maxHeartbeats 1000000 in
theorem do3_any {B : Nat} {w : World} {p : Nat} {x : DX} {s : PS} (dn n : Int) (name to : Nm) (b : List UInt8) (ts : List Int) (uo : Option Addr) (uc : Nat) (vo : Option Addr) (vc : Nat) (hk : name.length ≤ maxLen) (hk2 : to.length ≤ maxLen) (hn : i64 n) (hu : Byt w (.slice uo b.length uc) b) (hv : Vec Go.Tum.iv w (.slice vo ts.length vc) ts) (hts : ∀ t ∈ ts, i64 t)
    (h : Dk B w p x s) (hB : B ≤ w.heap.size) (hl : s.opn.length ≤ 100000) (hbl : b.length ≤ 1048576) (hlow : ∀ a, vo = some a → ts ≠ [] → a.block < B) (hg : Gd (actS s ⟨dn, n, name, to, b, ts⟩).2) (hd : dn = 3) :
    Calls Try.prog 12 #[pv p, .agg #[.int .i64 dn, .int .i64 n, vN name, vN to, .slice uo b.length uc, .slice vo ts.length vc]] w fun e w' => DoA B w p x s ⟨dn, n, name, to, b, ts⟩ e w' := by
  have E1 : Ext w (w.alloc (.cells #[.int .i64 dn, .int .i64 n, vN name, vN to, .slice uo b.length uc, .slice vo ts.length vc] 35 (0, 0))) := Ext.alloc _ _
  subst hd
  have HE := hid E1
  have H := hid (h.ext E1)
  have HU := hid (hu.ext E1)
  have HV := hid (hv.ext E1)
  have HB := hid hB
  have HB1 := hid (Nat.le_trans hB E1.size)
  have HG := hid hg
  have HN := hid hn
  have HTS := hid hts
  have HLW := hid hlow
  have HDL := hid h.low
  have HL := hid hl
  have HBL := hid hbl
  clear E1 h hu hv hB hg hn hts hlow hl hbl
  go_enter Try.func12, Try.ntmps12
  go_wp2_with fail
  refine (dcut_any name n hk H.out HB1.out HG.out).mono ?_
  rintro e w2 ⟨rfl, hs⟩
  have HS := hid hs
  clear hs
  go_wp2
  go_returns
  exact ⟨⟨_, rfl, own_nilE _ _⟩, (DoR.ext ⟨rfl, HS.out⟩ HE.out HB.out).2⟩

set_option maxRecDepth 100000 in
set_option maxHeartbeats 1000000 in
theorem do4_any {B : Nat} {w : World} {p : Nat} {x : DX} {s : PS} (dn n : Int) (name to : Nm) (b : List UInt8) (ts : List Int) (uo : Option Addr) (uc : Nat) (vo : Option Addr) (vc : Nat) (hk : name.length ≤ maxLen) (hk2 : to.length ≤ maxLen) (hn : i64 n) (hu : Byt w (.slice uo b.length uc) b) (hv : Vec Go.Tum.iv w (.slice vo ts.length vc) ts) (hts : ∀ t ∈ ts, i64 t)
    (h : Dk B w p x s) (hB : B ≤ w.heap.size) (hl : s.opn.length ≤ 100000) (hbl : b.length ≤ 1048576) (hlow : ∀ a, vo = some a → ts ≠ [] → a.block < B) (hg : Gd (actS s ⟨dn, n, name, to, b, ts⟩).2) (hd : dn = 4) :
    Calls Try.prog 12 #[pv p, .agg #[.int .i64 dn, .int .i64 n, vN name, vN to, .slice uo b.length uc, .slice vo ts.length vc]] w fun e w' => DoA B w p x s ⟨dn, n, name, to, b, ts⟩ e w' := by
  have E1 : Ext w (w.alloc (.cells #[.int .i64 dn, .int .i64 n, vN name, vN to, .slice uo b.length uc, .slice vo ts.length vc] 35 (0, 0))) := Ext.alloc _ _
  subst hd
  have HE := hid E1
  have H := hid (h.ext E1)
  have HU := hid (hu.ext E1)
  have HV := hid (hv.ext E1)
  have HB := hid hB
  have HB1 := hid (Nat.le_trans hB E1.size)
  have HG := hid hg
  have HN := hid hn
  have HTS := hid hts
  have HLW := hid hlow
  have HDL := hid h.low
  have HL := hid hl
  have HBL := hid hbl
  clear E1 h hu hv hB hg hn hts hlow hl hbl
  go_enter Try.func12, Try.ntmps12
  go_wp2_with fail
  refine (drename_any name to hk hk2 HL.out H.out HB1.out HG.out).mono ?_
  rintro e w2 ⟨rfl, hs⟩
  have HS := hid hs
  clear hs
  go_wp2
  go_returns
  exact ⟨⟨_, rfl, own_nilE _ _⟩, (DoR.ext ⟨rfl, HS.out⟩ HE.out HB.out).2⟩

set_option maxRecDepth 100000 in
set_option maxHeartbeats 1000000 in
theorem do5_any {B : Nat} {w : World} {p : Nat} {x : DX} {s : PS} (dn n : Int) (name to : Nm) (b : List UInt8) (ts : List Int) (uo : Option Addr) (uc : Nat) (vo : Option Addr) (vc : Nat) (hk : name.length ≤ maxLen) (hk2 : to.length ≤ maxLen) (hn : i64 n) (hu : Byt w (.slice uo b.length uc) b) (hv : Vec Go.Tum.iv w (.slice vo ts.length vc) ts) (hts : ∀ t ∈ ts, i64 t)
    (h : Dk B w p x s) (hB : B ≤ w.heap.size) (hl : s.opn.length ≤ 100000) (hbl : b.length ≤ 1048576) (hlow : ∀ a, vo = some a → ts ≠ [] → a.block < B) (hg : Gd (actS s ⟨dn, n, name, to, b, ts⟩).2) (hd : dn = 5) :
    Calls Try.prog 12 #[pv p, .agg #[.int .i64 dn, .int .i64 n, vN name, vN to, .slice uo b.length uc, .slice vo ts.length vc]] w fun e w' => DoA B w p x s ⟨dn, n, name, to, b, ts⟩ e w' := by
  have E1 : Ext w (w.alloc (.cells #[.int .i64 dn, .int .i64 n, vN name, vN to, .slice uo b.length uc, .slice vo ts.length vc] 35 (0, 0))) := Ext.alloc _ _
  subst hd
  have HE := hid E1
  have H := hid (h.ext E1)
  have HU := hid (hu.ext E1)
  have HV := hid (hv.ext E1)
  have HB := hid hB
  have HB1 := hid (Nat.le_trans hB E1.size)
  have HG := hid hg
  have HN := hid hn
  have HTS := hid hts
  have HLW := hid hlow
  have HDL := hid h.low
  have HL := hid hl
  have HBL := hid hbl
  clear E1 h hu hv hB hg hn hts hlow hl hbl
  go_enter Try.func12, Try.ntmps12
  go_wp2_with fail
  refine (ddelete_any name hk HL.out H.out HB1.out HG.out).mono ?_
  rintro e w2 ⟨rfl, hs⟩
  have HS := hid hs
  clear hs
  go_wp2
  go_returns
  exact ⟨⟨_, rfl, own_nilE _ _⟩, (DoR.ext ⟨rfl, HS.out⟩ HE.out HB.out).2⟩

set_option maxRecDepth 100000 in
set_option maxHeartbeats 1000000 in
theorem do6_any {B : Nat} {w : World} {p : Nat} {x : DX} {s : PS} (dn n : Int) (name to : Nm) (b : List UInt8) (ts : List Int) (uo : Option Addr) (uc : Nat) (vo : Option Addr) (vc : Nat) (hk : name.length ≤ maxLen) (hk2 : to.length ≤ maxLen) (hn : i64 n) (hu : Byt w (.slice uo b.length uc) b) (hv : Vec Go.Tum.iv w (.slice vo ts.length vc) ts) (hts : ∀ t ∈ ts, i64 t)
    (h : Dk B w p x s) (hB : B ≤ w.heap.size) (hl : s.opn.length ≤ 100000) (hbl : b.length ≤ 1048576) (hlow : ∀ a, vo = some a → ts ≠ [] → a.block < B) (hg : Gd (actS s ⟨dn, n, name, to, b, ts⟩).2) (hd : dn = 6) :
    Calls Try.prog 12 #[pv p, .agg #[.int .i64 dn, .int .i64 n, vN name, vN to, .slice uo b.length uc, .slice vo ts.length vc]] w fun e w' => DoA B w p x s ⟨dn, n, name, to, b, ts⟩ e w' := by
  have E1 : Ext w (w.alloc (.cells #[.int .i64 dn, .int .i64 n, vN name, vN to, .slice uo b.length uc, .slice vo ts.length vc] 35 (0, 0))) := Ext.alloc _ _
  subst hd
  have HE := hid E1
  have H := hid (h.ext E1)
  have HU := hid (hu.ext E1)
  have HV := hid (hv.ext E1)
  have HB := hid hB
  have HB1 := hid (Nat.le_trans hB E1.size)
  have HG := hid hg
  have HN := hid hn
  have HTS := hid hts
  have HLW := hid hlow
  have HDL := hid h.low
  have HL := hid hl
  have HBL := hid hbl
  clear E1 h hu hv hB hg hn hts hlow hl hbl
  go_enter Try.func12, Try.ntmps12
  go_wp2_with fail
  refine (ddsync_any H.out HB1.out HG.out).mono ?_
  rintro e w2 ⟨rfl, hs⟩
  have HS := hid hs
  clear hs
  go_wp2
  go_returns
  exact ⟨⟨_, rfl, own_nilE _ _⟩, (DoR.ext ⟨rfl, HS.out⟩ HE.out HB.out).2⟩

set_option maxRecDepth 100000 in
set_option maxHeartbeats 1000000 in
theorem do7_any {B : Nat} {w : World} {p : Nat} {x : DX} {s : PS} (dn n : Int) (name to : Nm) (b : List UInt8) (ts : List Int) (uo : Option Addr) (uc : Nat) (vo : Option Addr) (vc : Nat) (hk : name.length ≤ maxLen) (hk2 : to.length ≤ maxLen) (hn : i64 n) (hu : Byt w (.slice uo b.length uc) b) (hv : Vec Go.Tum.iv w (.slice vo ts.length vc) ts) (hts : ∀ t ∈ ts, i64 t)
    (h : Dk B w p x s) (hB : B ≤ w.heap.size) (hl : s.opn.length ≤ 100000) (hbl : b.length ≤ 1048576) (hlow : ∀ a, vo = some a → ts ≠ [] → a.block < B) (hg : Gd (actS s ⟨dn, n, name, to, b, ts⟩).2) (hd : dn = 7) :
    Calls Try.prog 12 #[pv p, .agg #[.int .i64 dn, .int .i64 n, vN name, vN to, .slice uo b.length uc, .slice vo ts.length vc]] w fun e w' => DoA B w p x s ⟨dn, n, name, to, b, ts⟩ e w' := by
  have E1 : Ext w (w.alloc (.cells #[.int .i64 dn, .int .i64 n, vN name, vN to, .slice uo b.length uc, .slice vo ts.length vc] 35 (0, 0))) := Ext.alloc _ _
  subst hd
  have HE := hid E1
  have H := hid (h.ext E1)
  have HU := hid (hu.ext E1)
  have HV := hid (hv.ext E1)
  have HB := hid hB
  have HB1 := hid (Nat.le_trans hB E1.size)
  have HG := hid hg
  have HN := hid hn
  have HTS := hid hts
  have HLW := hid hlow
  have HDL := hid h.low
  have HL := hid hl
  have HBL := hid hbl
  clear E1 h hu hv hB hg hn hts hlow hl hbl
  go_enter Try.func12, Try.ntmps12
  go_wp2_with fail
  refine (dfuse_any n HN.out.2 H.out HB1.out).mono ?_
  rintro e w2 ⟨⟨u, rfl⟩, hs⟩
  have HS := hid hs
  clear hs
  go_wp2
  go_returns
  exact ⟨⟨_, rfl, own_nilE _ _⟩, (DoR.ext (r := (0, _)) ⟨rfl, HS.out⟩ HE.out HB.out).2⟩

set_option maxRecDepth 100000 in
set_option maxHeartbeats 1000000 in
theorem do8_any {B : Nat} {w : World} {p : Nat} {x : DX} {s : PS} (dn n : Int) (name to : Nm) (b : List UInt8) (ts : List Int) (uo : Option Addr) (uc : Nat) (vo : Option Addr) (vc : Nat) (hk : name.length ≤ maxLen) (hk2 : to.length ≤ maxLen) (hn : i64 n) (hu : Byt w (.slice uo b.length uc) b) (hv : Vec Go.Tum.iv w (.slice vo ts.length vc) ts) (hts : ∀ t ∈ ts, i64 t)
    (h : Dk B w p x s) (hB : B ≤ w.heap.size) (hl : s.opn.length ≤ 100000) (hbl : b.length ≤ 1048576) (hlow : ∀ a, vo = some a → ts ≠ [] → a.block < B) (hg : Gd (actS s ⟨dn, n, name, to, b, ts⟩).2) (hd : dn = 8) :
    Calls Try.prog 12 #[pv p, .agg #[.int .i64 dn, .int .i64 n, vN name, vN to, .slice uo b.length uc, .slice vo ts.length vc]] w fun e w' => DoA B w p x s ⟨dn, n, name, to, b, ts⟩ e w' := by
  have E1 : Ext w (w.alloc (.cells #[.int .i64 dn, .int .i64 n, vN name, vN to, .slice uo b.length uc, .slice vo ts.length vc] 35 (0, 0))) := Ext.alloc _ _
  subst hd
  have HE := hid E1
  have H := hid (h.ext E1)
  have HU := hid (hu.ext E1)
  have HV := hid (hv.ext E1)
  have HB := hid hB
  have HB1 := hid (Nat.le_trans hB E1.size)
  have HG := hid hg
  have HN := hid hn
  have HTS := hid hts
  have HLW := hid hlow
  have HDL := hid h.low
  have HL := hid hl
  have HBL := hid hbl
  clear E1 h hu hv hB hg hn hts hlow hl hbl
  go_enter Try.func12, Try.ntmps12
  go_wp2_with fail
  refine (dcrash_any n ts vo vc H.out HB1.out HV.out (fun a ha hne hm => by have := HLW.out a ha hne; have := HDL.out _ hm; omega) HTS.out HG.out).mono ?_
  rintro e w2 ⟨⟨u, rfl⟩, hs⟩
  have HS := hid hs
  clear hs
  go_wp2
  go_returns
  exact ⟨⟨_, rfl, own_nilE _ _⟩, (DoR.ext (r := (0, _)) ⟨rfl, HS.out⟩ HE.out HB.out).2⟩

set_option maxRecDepth 100000 in
set_option maxHeartbeats 1000000 in
theorem do9_any {B : Nat} {w : World} {p : Nat} {x : DX} {s : PS} (dn n : Int) (name to : Nm) (b : List UInt8) (ts : List Int) (uo : Option Addr) (uc : Nat) (vo : Option Addr) (vc : Nat) (hk : name.length ≤ maxLen) (hk2 : to.length ≤ maxLen) (hn : i64 n) (hu : Byt w (.slice uo b.length uc) b) (hv : Vec Go.Tum.iv w (.slice vo ts.length vc) ts) (hts : ∀ t ∈ ts, i64 t)
    (h : Dk B w p x s) (hB : B ≤ w.heap.size) (hl : s.opn.length ≤ 100000) (hbl : b.length ≤ 1048576) (hlow : ∀ a, vo = some a → ts ≠ [] → a.block < B) (hg : Gd (actS s ⟨dn, n, name, to, b, ts⟩).2) (d0 : (dn == 0) = false) (d1 : (dn == 1) = false) (d2 : (dn == 2) = false) (d3 : (dn == 3) = false) (d4 : (dn == 4) = false) (d5 : (dn == 5) = false) (d6 : (dn == 6) = false) (d7 : (dn == 7) = false) (d8 : (dn == 8) = false) :
    Calls Try.prog 12 #[pv p, .agg #[.int .i64 dn, .int .i64 n, vN name, vN to, .slice uo b.length uc, .slice vo ts.length vc]] w fun e w' => DoA B w p x s ⟨dn, n, name, to, b, ts⟩ e w' := by
  have E1 : Ext w (w.alloc (.cells #[.int .i64 dn, .int .i64 n, vN name, vN to, .slice uo b.length uc, .slice vo ts.length vc] 35 (0, 0))) := Ext.alloc _ _
  have HAS : Hid (actS s ⟨dn, n, name, to, b, ts⟩ = (rdE s name, s)) := hid (by
    simp only [beq_eq_false_iff_ne, ne_eq] at d0 d1 d2 d3 d4 d5 d6 d7 d8
    simp only [actS, d0, d1, d2, d3, d4, d5, d6, d7, d8, if_false])
  have HBS : Hid (actB s ⟨dn, n, name, to, b, ts⟩ = rdB s name) := hid (by
    simp only [beq_eq_false_iff_ne, ne_eq] at d0 d1 d2 d3 d4 d5 d6 d7 d8
    unfold actB
    exact if_neg (by simp only; omega))
  have HE := hid E1
  have H := hid (h.ext E1)
  have HU := hid (hu.ext E1)
  have HV := hid (hv.ext E1)
  have HB := hid hB
  have HB1 := hid (Nat.le_trans hB E1.size)
  have HG := hid hg
  have HN := hid hn
  have HTS := hid hts
  have HLW := hid hlow
  have HDL := hid h.low
  have HL := hid hl
  have HBL := hid hbl
  clear E1 h hu hv hB hg hn hts hlow hl hbl
  go_enter Try.func12, Try.ntmps12
  go_wp2_with fail
  refine (dread_any name hk H.out).mono ?_
  rintro e w2 ⟨⟨v, rfl, ho⟩, E2⟩
  have HO := hid (ho.mono HE.out.size)
  have HE2 := hid E2
  obtain ⟨vo2, vc2, hvv⟩ : ∃ o c, v = .slice o (rdB s name).length c := by
    obtain ⟨a, c, e, -⟩ := ho.byt.open
    exact ⟨a, c, e⟩
  subst hvv
  have HH := hid (H.out.ext E2)
  clear ho E2
  go_wp2
  go_returns
  have HA := HAS.out
  have HB2 := HBS.out
  unfold DoA
  rw [HA, HB2]
  exact ⟨⟨_, rfl, HO.out⟩, x, HH.out, Ext.fr (HE.out.trans HE2.out), (HE.out.trans HE2.out).mono HB.out, fun q hq => .inl hq⟩

theorem do_any {B : Nat} {w : World} {p : Nat} {x : DX} {s : PS} (q : AtV) (hq : AtOk w q) (h : Dk B w p x s) (hB : B ≤ w.heap.size) (hw : WF s) (hl : s.opn.length ≤ 100000) (hbl : q.1.b.length ≤ 1048576) (hlow : ∀ a n c, q.2.2 = .slice (some a) n c → q.1.ts ≠ [] → a.block < B) :
    Calls Try.prog 12 #[pv p, actV q] w fun e w' => DoA B w p x s q.1 e w' := by
  obtain ⟨⟨dn, n, name, to, b, ts⟩, u, v⟩ := q
  obtain ⟨h1, h2, h3, h4, h5, h6⟩ := hq
  dsimp only at h1 h2 h3 h4 h5 h6 hbl hlow
  obtain ⟨uo, uc, rfl, -⟩ := h4.open
  obtain ⟨vo, vc, rfl, -⟩ := h5.open
  have hg := (hw.act ⟨dn, n, name, to, b, ts⟩ h3).gd
  have hlow' : ∀ a, vo = some a → ts ≠ [] → a.block < B := fun a ha hne => hlow a _ _ (by rw [ha]) hne
  by_cases d0 : dn = 0
  · exact do0_any dn n name to b ts uo uc vo vc h1 h2 h3 h4 h5 h6 h hB hl hbl hlow' hg d0
  by_cases d1 : dn = 1
  · exact do1_any dn n name to b ts uo uc vo vc h1 h2 h3 h4 h5 h6 h hB hl hbl hlow' hg d1
  by_cases d2 : dn = 2
  · exact do2_any dn n name to b ts uo uc vo vc h1 h2 h3 h4 h5 h6 h hB hl hbl hlow' hg d2
  by_cases d3 : dn = 3
  · exact do3_any dn n name to b ts uo uc vo vc h1 h2 h3 h4 h5 h6 h hB hl hbl hlow' hg d3
  by_cases d4 : dn = 4
  · exact do4_any dn n name to b ts uo uc vo vc h1 h2 h3 h4 h5 h6 h hB hl hbl hlow' hg d4
  by_cases d5 : dn = 5
  · exact do5_any dn n name to b ts uo uc vo vc h1 h2 h3 h4 h5 h6 h hB hl hbl hlow' hg d5
  by_cases d6 : dn = 6
  · exact do6_any dn n name to b ts uo uc vo vc h1 h2 h3 h4 h5 h6 h hB hl hbl hlow' hg d6
  by_cases d7 : dn = 7
  · exact do7_any dn n name to b ts uo uc vo vc h1 h2 h3 h4 h5 h6 h hB hl hbl hlow' hg d7
  by_cases d8 : dn = 8
  · exact do8_any dn n name to b ts uo uc vo vc h1 h2 h3 h4 h5 h6 h hB hl hbl hlow' hg d8
  exact do9_any dn n name to b ts uo uc vo vc h1 h2 h3 h4 h5 h6 h hB hl hbl hlow' hg (by simpa using d0) (by simpa using d1) (by simpa using d2) (by simpa using d3) (by simpa using d4) (by simpa using d5) (by simpa using d6) (by simpa using d7) (by simpa using d8)

end Go.Proofs.Ytkaafllbmeppnaa
