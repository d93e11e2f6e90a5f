/- For every input the law IndexDies returns true and leaves what was there as it was; no condition but the sizes of the row. -/
import Derived.Test.YtcfgafododiioaaGreatDoorC45
import Derived.Test.YtcfgafododiioaaGreatDoorC44
import Derived.Test.YtcfgafododiioaaGreatDoorC33
import Derived.Test.YtcfgafododiioaaGreatDoorC38
import Derived.Deep.Grids
import Derived.Laws.Rows
import Derived.Laws.Tables
import Derived.Test.YtcfgafododiioaaGreatDoorCards
import Derived.Test.YtcfgafododiioaaGreatDoorTie
import Derived.WalkKit
import Derived.ProofKit
import Derived.OpenShut
import Derived.Below
import Derived.Deep.DeepHandedRow
import Derived.SizedLaws
import Derived.Lib.LaidU8
import Derived.Deep.DeepLaidRun
import Derived.ShutString
import Derived.Test.YtcfgafododiioaaGreatDoorC1
import Derived.Lib.SmallJoins
set_option linter.unusedSimpArgs false
set_option linter.unusedVariables false
set_option maxRecDepth 100000
namespace Go.Proofs.YtcfgafododiioaaGreatDoor
open Go Go.RowKit Go.Tum Go.ChangeMaps Go.Sort
open Go.ParB (upd Lof)
open Go.ParE (putS slotsR slots Closed)
set_option maxHeartbeats 2000000 in
theorem isame_eq {w:World} {a:An} {u v:Value} (hu:Vec uv w u a.ids) (hv:Vec uv w v a.ids):
 Calls Tryz.prog 18 #[anV a u,anV a v] w fun e w'=>e= .returned (.bool true)∧Ext w w':=by
 obtain⟨E,Id,⟨id,la,st,ct,du,tk,tu,sg,ps,sz⟩,Many,Is,Ids⟩:=a
 obtain⟨W1,hW1⟩:∃W,w.alloc (.cells #[.int .i64 E,vU Id,vU id,.int .i64 la,.int .i64 st,.int .i64 ct,vU du,vU tk,vU tu,vU sg,vU ps,.int .i64 sz,.int .i64 Many,.bool Is,u] 49 (0,0))=W:=⟨_,rfl⟩
 obtain⟨W2,hW2⟩:∃W,W1.alloc (.cells #[.int .i64 E,vU Id,vU id,.int .i64 la,.int .i64 st,.int .i64 ct,vU du,vU tk,vU tu,vU sg,vU ps,.int .i64 sz,.int .i64 Many,.bool Is,v] 49 (0,0))=W:=⟨_,rfl⟩
 have e1:Ext w W1:=by rw[←hW1];exact Ext.alloc _ _
 have e2:Ext W1 W2:=by rw[←hW2];exact Ext.alloc _ _
 have b1:=e2.obj (show W1.heap[w.heap.size]? =some (.cells #[.int .i64 E,vU Id,vU id,.int .i64 la,.int .i64 st,.int .i64 ct,vU du,vU tk,vU tu,vU sg,vU ps,.int .i64 sz,.int .i64 Many,.bool Is,u] 49 (0,0)) by rw[←hW1];exact heap_alloc_new _ _)
 have b2:W2.heap[W1.heap.size]? =some (.cells #[.int .i64 E,vU Id,vU id,.int .i64 la,.int .i64 st,.int .i64 ct,vU du,vU tk,vU tu,vU sg,vU ps,.int .i64 sz,.int .i64 Many,.bool Is,v] 49 (0,0)):=by rw[←hW2];exact heap_alloc_new _ _
 obtain⟨x0,x1,x2,x3,x4,x5,x6,x7,x8,x9,x10,x11,x12,x13,x14,-⟩:=blk15 b1
 obtain⟨y0,y1,y2,y3,y4,y5,y6,y7,y8,y9,y10,y11,y12,y13,y14,-⟩:=blk15 b2
 have HX:=hid (e1.trans e2)
 have HU:=hid (hu.ext (e1.trans e2))
 have HV:=hid (hv.ext (e1.trans e2))
 clear e1 e2 b1 b2 hu hv
 go_enter Tryz.func18,Tryz.ntmps18
 go_wp2_with fail
 clear hW1 hW2 x0 x1 x2 x3 x4 x5 x6 x7 x8 x9 x10 x11 x12 x13 x14 y0 y1 y2 y3 y4 y5 y6 y7 y8 y9 y10 y11 y12 y13 y14
 refine(rsame64_any u v Ids Ids W2 HU.out HV.out).mono ?_
 rintro e w3 ⟨rfl,hx⟩
 have hb:(Ids==Ids)=true:=by simp
 go_wp2
 go_returns
 exact⟨rfl,HX.out.trans hx⟩
end Go.Proofs.YtcfgafododiioaaGreatDoor
set_option maxRecDepth 100000
namespace Go.Proofs.YtcfgafododiioaaGreatDoor
open Go Go.RowKit Go.Tum Go.ChangeMaps Go.Sort
theorem IX.bs {B:Nat} {w:World} {p:Nat} {x:XP} {q:QR} (h:IX B w p x q):B≤w.heap.size:=by
 have:=h.blk_lo p (XP.mem_blk.2 ⟨0,by decide,by simp[XP.comp]⟩)
 omega
structure I2 (B:Nat) (w:World) (p:Nat) (x:XP) (q:QR) (p2:Nat) (y:XP) (r:QR):Prop where
 a:IX B w p x q
 b:IX B w p2 y r
 ap:∀c∈x.blk p,c∉y.blk p2
section
variable {B : Nat} {w w' : World} {p p2 : Nat} {x y : XP} {q r : QR}
theorem I2.ext (h:I2 B w p x q p2 y r) (k:Ext w w'):I2 B w' p x q p2 y r:=⟨h.a.ext k,h.b.ext k,h.ap⟩
theorem I2.symm (h:I2 B w p x q p2 y r):I2 B w p2 y r p x q:=⟨h.b,h.a,fun c hc hm=>h.ap c hm hc⟩
theorem IX.off_fr (h:IX B w p2 y r) {S:List Nat} (f:Fr S w w') (hs:∀c∈S,c∉y.blk p2):IX B w' p2 y r:=
 h.fr f fun i hi a ha hm=>hs a hm (XP.mem_blk.2 ⟨i,hi,ha⟩)
theorem I2.left (h:I2 B w p x q p2 y r) {q':QR} (s:XStp B w p x q' w'):∃x',I2 B w' p x' q' p2 y r∧Fr (x.blk p) w w'∧(∀a∈x'.blk p,a∈x.blk p∨w.heap.size≤a):=by
 obtain⟨x',i,f,n⟩:=s
 refine⟨x',⟨i,h.b.off_fr f h.ap,fun c hc hm=> ?_⟩,f,n⟩
 rcases n c hc with k|k
 · exact h.ap c k hm
 · have:=(h.b.blk_lo c hm).2
   omega
theorem I2.right (h:I2 B w p x q p2 y r) {r':QR} (s:XStp B w p2 y r' w'):∃y',I2 B w' p x q p2 y' r'∧Fr (y.blk p2) w w'∧(∀a∈y'.blk p2,a∈y.blk p2∨w.heap.size≤a):=by
 obtain⟨y',i,f,n⟩:=h.symm.left s
 exact⟨y',i.symm,f,n⟩
theorem I2.made {w1:World} (h:IX B w p x q) (k:IX w.heap.size w1 p2 y r) (e:Ext w w1) (hB:B≤w.heap.size):I2 B w1 p x q p2 y r:=
 ⟨h.ext e,k.lower hB,fun c hc hm=>by have:=(h.blk_lo c hc).2;have:=(k.blk_lo c hm).1;omega⟩
end
def SrX (s:SR) (V:Value) (w:World):Prop:=∃b vi vd vc,V=srV s vi vd vc∧SrO b w s vi vd vc
def RsX (s:SR) (V:Value) (w:World):Prop:=∃b x y z,V=srV s x y z∧RSt b w s x y z
theorem SrX.ext {s:SR} {V:Value} {w w':World} (h:SrX s V w) (k:Ext w w'):SrX s V w':=by
 obtain⟨b,vi,vd,vc,e,h⟩:=h
 exact⟨b,vi,vd,vc,e,h.ext k⟩
theorem RsX.ext {s:SR} {V:Value} {w w':World} (h:RsX s V w) (k:Ext w w'):RsX s V w':=by
 obtain⟨b,x,y,z,e,h⟩:=h
 exact⟨b,x,y,z,e,h.ext k⟩
theorem st_val {B n:Nat} {w:World} {p:Nat} {x:XP} {q:QR} (h:IX B w p x q) (hq:XQ n q) (ht:TB w) {s:SR} (hs:stateQ q=s):
 Calls Tryz.prog 23 #[pv p] w fun e w'=>(∃V,e= .returned V∧SrX s V w')∧Ext w w':=
 (st_any h hq ht hs).mono fun e w' ⟨⟨vi,vd,vc,he,ho⟩,hx⟩=>⟨⟨_,he,_,vi,vd,vc,rfl,ho⟩,hx⟩
theorem lst_val {w:World} {s:SR} {V:Value} (h:SrX s V w) (hs:SmS s):
 Calls Tryz.prog 22 #[V] w fun e w'=>(∃V',e= .returned V'∧RsX s V' w')∧Ext w w':=by
 obtain⟨b,vi,vd,vc,rfl,ho⟩:=h
 exact(lst_any ho hs).mono fun e w' ⟨⟨x,y,z,he,hr⟩,hx⟩=>⟨⟨_,he,_,x,y,z,rfl,hr⟩,hx⟩
theorem rsame_val {w:World} {s:SR} {U V:Value} (h:RsX s U w) (k:RsX s V w) (hs:SmS s):
 Calls Tryz.prog 21 #[U,V] w fun e w'=>e= .returned (.bool true)∧Ext w w':=by
 obtain⟨b,x,y,z,rfl,hr⟩:=h
 obtain⟨b2,x2,y2,z2,rfl,hr2⟩:=k
 exact rsame11_eq hr hr2 (by have:=hs.it;omega)
def FrmX (B n:Nat) (q:QR) (X:Nat) (w:World):Prop:=∃y r,IX B w X y r∧MadeR n q.lanes q.pay q.del (stateQ q) r
theorem FrmX.ext {B n:Nat} {q:QR} {X:Nat} {w w':World} (h:FrmX B n q X w) (k:Ext w w'):FrmX B n q X w':=by
 obtain⟨y,r,a,b⟩:=h
 exact⟨y,r,a.ext k,b⟩
theorem FrmX.low {B B' n:Nat} {q:QR} {X:Nat} {w:World} (h:FrmX B n q X w) (k:B'≤B):FrmX B' n q X w:=by
 obtain⟨y,r,a,b⟩:=h
 exact⟨y,r,a.lower k,b⟩
theorem from_val {n:Nat} {w:World} {q:QR} {V:Value} (hs:XQ n q) (hn:n≤4611686018427387904) (h:SrX (stateQ q) V w) (ht:TB w):
 Calls Tryz.prog 28 #[ccV q.lanes q.pay q.del,V] w fun e w'=>(∃X,e= .returned (.tuple #[pv X,.int .i64 0])∧FrmX w.heap.size n q X w')∧Ext w w':=by
 obtain⟨b,vi,vd,vc,rfl,h⟩:=h
 obtain⟨o1,k1,rfl⟩:=row_shape h.it
 obtain⟨o2,k2,rfl⟩:=row_shape h.dd
 obtain⟨o3,k3,rfl⟩:=row_shape h.cu
 refine(ifrom_any n q.lanes q.pay q.del (Sl.of_owns h.it) (Sl.of_owns h.dd) (Sl.of_owns h.cu) ht (by have:=dead_len hs.wi.wq hs.wi.wd;omega) (state_curs hs.wi.wd) (fun _=>⟨hs.wi.lo.le,hs.wi.lo.tu,hs.wi.lo.de⟩)).mono ?_
 rintro e w' ⟨hf,hx⟩
 rw[state_ok hs hn,hs.wi.wq.right,if_pos (by rfl)] at hf
 obtain⟨X,x,r,rfl,hI,hM⟩:=hf
 exact⟨⟨X,rfl,x,r,hI,hM⟩,hx⟩
end Go.Proofs.YtcfgafododiioaaGreatDoor
namespace Go.Proofs.YtcfgafododiioaaGreatDoor
open Go Go.RowKit Go.Tum Go.ChangeMaps Go.Sort
def Set3 (q r:QR):Prop:=r.lanes=q.lanes∧r.pay=q.pay∧r.del=q.del
theorem Set3.refl (q:QR):Set3 q q:=⟨rfl,rfl,rfl⟩
theorem Set3.trans {a b c:QR} (h:Set3 a b) (k:Set3 b c):Set3 a c:=⟨k.1.trans h.1,k.2.1.trans h.2.1,k.2.2.trans h.2.2⟩
theorem Set3.bec (q:QR) (z:It) (l:L):Set3 q (becQ q z l):=by
 obtain⟨a1,a2,a3,-⟩:=becQ_same q z l
 exact⟨a1,a2,a3⟩
theorem Set3.tickL:∀(k:Nat) (q:QR),Set3 q (Go.Proofs.YtcfgafododiioaaGreatDoor.tickL k q).2
 |0,q=>Set3.refl q
 |k+1,q=>by
  unfold Go.Proofs.YtcfgafododiioaaGreatDoor.tickL
  split
  · exact Set3.refl q
  · exact(Set3.bec q _ _).trans (Set3.tickL k _)
theorem Set3.resL (d:Int):∀(l:List It) (q:QR),Set3 q (Go.Proofs.YtcfgafododiioaaGreatDoor.resL d l q)
 |[],q=>Set3.refl q
 |z::r,q=>by
  unfold Go.Proofs.YtcfgafododiioaaGreatDoor.resL
  exact(Set3.bec q _ _).trans (Set3.resL d r _)
theorem Set3.with (q:QR) (t:UInt64) (f:L→L×Int):Set3 q (withQ q t f).2.2:=by
 unfold withQ
 split
 · exact Set3.refl q
 · dsimp only
   split
   · exact Set3.refl q
   · exact Set3.bec q _ _
theorem Set3.dead (q:QR) (i:UInt64) (s:Int):Set3 q (deadQ q i s).2:=by
 unfold deadQ
 dsimp only
 split
 · exact Set3.refl q
 · exact Set3.bec q _ _
theorem Set3.actB (q:QR) (a:Ai):∀k:Kd,Set3 q (Go.Proofs.YtcfgafododiioaaGreatDoor.actB q a k).2
 | .a0=>by
  rw[actB0]
  show Set3 q (putQ q a.lane a.n a.sg a.ps a.size).2.2
  unfold putQ
  split
  · exact Set3.refl q
  split
  · exact Set3.refl q
  split
  · exact Set3.refl q
  split
  · exact Set3.refl q
  exact Set3.bec q _ _
 | .a1=>by
  rw[actB1]
  show Set3 q (leaseQ q a.lane a.n).2.2
  unfold leaseQ
  split
  · exact Set3.refl q
  split
  · exact Set3.refl q
  dsimp only
  split
  · exact Set3.refl q
  exact Set3.bec {q with leases:=q.leases+1} _ _
 | .a2=>by rw[actB2];exact Set3.with q _ _
 | .a3=>by rw[actB3];exact Set3.with q _ _
 | .a4=>by rw[actB4];exact Set3.with q _ _
 | .a5=>by
  have hk:Set3 q (tickQ q a.n).2.2:=by
   unfold tickQ
   split
   · exact Set3.refl q
   · have:=Set3.tickL 201 {q with now:=q.now+a.n}
     generalize Go.Proofs.YtcfgafododiioaaGreatDoor.tickL 201 {q with now:=q.now+a.n}=T at this⊢
     exact this
  obtain⟨T,hT⟩:∃T,tickQ q a.n=T:=⟨_,rfl⟩
  rw[actB5,hT]
  rw[hT] at hk
  exact hk
 | .a6=>by rw[actB6];exact Set3.dead q _ _
 | .a7=>by rw[actB7];exact Set3.dead q _ _
 | .a8=>by rw[actB8];exact Set3.refl q
 | .a9=>by rw[actB9];exact Set3.resL _ _ q
 | .a10=>by rw[actB10];exact Set3.refl q
 | .a11=>by rw[actB11];exact Set3.refl q
theorem Set3.act (q:QR) (a:Ai):Set3 q (actI q a).2:=Set3.actB q a _
theorem act_tick (q:QR) (t:UInt64) {T:Nat×Int×QR} (hT:tickQ q t=T):actI q ⟨5,0,0,0,t,[],0,0,0⟩=({an0 with many:=(T.1:Int),e:=T.2.1},T.2.2):=by
 show actB q _ (kindI _)=_
 rw[show kindI ⟨5,0,0,0,t,[],0,0,0⟩=Kd.a5 by unfold kindI;simp,actB5]
 dsimp only
 rw[hT]
theorem act_tick2 {N:Nat} {q:QR} (h:XQ N q) (hN:N+300≤5000000000000000000) (t:UInt64) {T:Nat×Int×QR} (hT:tickQ q t=T):XQ (N+300) T.2.2:=by
 have:=h.act hN ⟨5,0,0,0,t,[],0,0,0⟩
 rw[act_tick q t hT] at this
 exact this
end Go.Proofs.YtcfgafododiioaaGreatDoor
namespace Go.Proofs.YtcfgafododiioaaGreatDoor
open Go Go.RowKit Go.Tum Go.ChangeMaps Go.Sort
structure One (la pa de lane:Int) (z:It) (q:QR):Prop where
 wq:WQ q
 la:q.lanes=la
 pa:q.pay=pa
 de:q.del=de
 lk:∀i,look q i=if i=z.id then some z else none
 ln:z.lane=lane
theorem list_one {α:Type} {l:List α} {a:α} (hn:l.Nodup) (h:∀b,b∈l↔b=a):l=[a]:=by
 cases l with
 |nil=>exact absurd ((h a).2 rfl) (by simp)
 |cons b r=>
  have hb:=(h b).1 (by simp)
  subst hb
  cases r with
  |nil=>rfl
  |cons c r=>
   have hc:=(h c).1 (by simp)
   rw[hc] at hn
   simp at hn
theorem list_none {α:Type} {l:List α} (h:∀b,b∉l):l=[]:=by
 cases l with
 |nil=>rfl
 |cons b r=>exact absurd (List.mem_cons_self ..) (h b)
section
variable {la pa de lane : Int} {z : It} {q : QR}
theorem One.self (h:One la pa de lane z q):look q z.id=some z:=by rw[h.lk,if_pos rfl]
theorem One.only (h:One la pa de lane z q) {i:UInt64} {y:It} (hy:look q i=some y):i=z.id∧y=z:=by
 rw[h.lk] at hy
 split at hy
 · rename_i e;exact⟨e,(Option.some.inj hy).symm⟩
 · cases hy
theorem One.its (h:One la pa de lane z q):q.its.map Prod.snd=[z]:=by
 have h1:q.its.map Prod.fst=[z.id]:=list_one h.wq.nd fun b=>by
  constructor
  · intro hb
    obtain⟨y,hy,rfl⟩:=List.mem_map.1 hb
    exact(h.only (h.wq.lkz hy)).1
  · rintro rfl
    exact List.mem_map.2 ⟨_,look_in h.self,rfl⟩
 have h2:q.its.length=1:=by rw[←List.length_map (f:=Prod.fst),h1];rfl
 obtain⟨y,hy⟩:=List.length_eq_one_iff.1 h2
 rw[hy]
 have:=(h.only (h.wq.lkz (z:=y) (by rw[hy];simp))).2
 simp[this]
theorem One.rng (h:One la pa de lane z q):0≤lane∧lane<la∧la≤8:=by
 have:=(h.wq.it _ (look_in h.self)).ln
 have h2:=h.wq.cf
 rw[h.la] at this h2
 dsimp only at this
 rw[h.ln] at this
 omega
theorem One.row (h:One la pa de lane z q) (hs:z.st=1) (n:Nat) (hn:n<8):q.rows n=if n=lane.toNat then[z.id] else[]:=by
 split
 · rename_i e
   refine list_one (h.wq.rowlen hn).2 fun i=> ?_
   rw[h.wq.co.row n hn]
   constructor
   · rintro⟨y,hy,-⟩;exact(h.only hy).1
   · rintro rfl;exact⟨z,h.self,hs,by rw[h.ln,e]⟩
 · rename_i e
   refine list_none fun i hi=> ?_
   obtain⟨y,hy,-,k⟩:=(h.wq.co.row n hn i).1 hi
   rw[(h.only hy).2,h.ln] at k
   exact e k.symm
theorem One.row0 (h:One la pa de lane z q) (hs:z.st≠1) (n:Nat) (hn:n<8):q.rows n=[]:=list_none fun i hi=>by
 obtain⟨y,hy,k,-⟩:=(h.wq.co.row n hn i).1 hi
 rw[(h.only hy).2] at k
 exact hs k
theorem One.get (h:One la pa de lane z q):getI q z.id=z:=by unfold getI;rw[h.self];rfl
theorem One.peekL (h:One la pa de lane z q) (hs:z.st=1):∀l:List Nat,(∀n∈l,n<8)→lane.toNat∈l→Go.Proofs.YtcfgafododiioaaGreatDoor.peekL q lane l=(z,0)
 |[],_,hm=>by simp at hm
 |n::r,hn,hm=>by
  have hr:=h.rng
  unfold Go.Proofs.YtcfgafododiioaaGreatDoor.peekL
  by_cases e:n=lane.toNat
  · rw[if_neg (by omega),h.row hs n (hn n (by simp)),if_pos e]
    dsimp only
    rw[h.get]
  · rw[if_pos ⟨by omega,by omega⟩]
    refine h.peekL hs r (fun m k=>hn m (List.mem_cons_of_mem _ k)) ?_
    rcases List.mem_cons.1 hm with k|k
    · exact absurd k.symm e
    · exact k
theorem One.peekL0 (h:One la pa de lane z q) (hs:z.st≠1):∀l:List Nat,(∀n∈l,n<8)→Go.Proofs.YtcfgafododiioaaGreatDoor.peekL q lane l=(it0,11)
 |[],_=>rfl
 |n::r,hn=>by
  have ih:=h.peekL0 hs r fun m k=>hn m (List.mem_cons_of_mem _ k)
  unfold Go.Proofs.YtcfgafododiioaaGreatDoor.peekL
  split
  · exact ih
  · rw[h.row0 hs n (hn n (by simp))];exact ih
theorem One.peek (h:One la pa de lane z q):peekQ q lane=if z.st=1 then(z,0) else(it0,11):=by
 have hr:=h.rng
 have hb:∀n∈List.range q.lanes.toNat,n<8:=fun n hn=>by rw[List.mem_range,h.la] at hn;omega
 unfold peekQ
 rw[if_neg (by rw[h.la];omega)]
 split
 · rename_i hs
   exact h.peekL hs _ hb (by rw[List.mem_range,h.la];omega)
 · rename_i hs
   exact h.peekL0 hs _ hb
theorem One.bec (h:One la pa de lane z q) {l:L} (hs:l.s=1∨l.s=2∨l.s=3∨l.s=4) (hw:WQ (becQ q z l)):One la pa de lane (becI q z l) (becQ q z l):=by
 obtain⟨a1,a2,a3,-⟩:=becQ_same q z l
 refine⟨hw,a1.trans h.la,a2.trans h.pa,a3.trans h.de,fun i=> ?_,h.ln⟩
 rw[look_bec (by omega)]
 have e5:¬(becI q z l).st=5:=by show¬l.s=5;omega
 unfold entG
 rw[if_neg e5]
 unfold setG delG
 show(if i=z.id then some (becI q z l) else if i=z.id then none else look q i)=if i=z.id then some (becI q z l) else none
 by_cases e:i=z.id
 · rw[if_pos e,if_pos e]
 · rw[if_neg e,if_neg e,if_neg e,h.lk,if_neg e]
theorem toN {n:Int} (h0:0≤n) (h1:n<18446744073709551616):((UInt64.ofNat n.toNat).toNat:Int)=n:=by
 rw[UInt64.toNat_ofNat']
 omega
theorem One.lease (h:One la pa de lane z q) (hs:z.st=1) {span:UInt64} (h0:span≠0) (ho:q.now.toNat+span.toNat<18446744073709551616) (hw:WQ (leaseQ q lane span).2.2):
 ∃y,(leaseQ q lane span).1=y∧(leaseQ q lane span).2.1=0∧One la pa de lane y (leaseQ q lane span).2.2∧y.id=z.id∧y.st=3∧y.ct=z.ct+1∧y.due.toNat=q.now.toNat+span.toNat∧(leaseQ q lane span).2.2.now=q.now:=by
 have hct:=(h.wq.it _ (look_in h.self)).lf
 have hcf:=h.wq.cf
 dsimp only at hct
 have hwr:wrap64 (z.ct+1)=z.ct+1:=by unfold wrap64;omega
 have hn0:¬(span.toNat:Int)=0:=fun e=>h0 (UInt64.toNat_inj.1 (show span.toNat=0 by omega))
 have hl:leaseL z.l q.now.toNat span.toNat (q.leases+1).toNat=(⟨3,z.ct+1,(q.now.toNat:Int)+span.toNat,((q.leases+1).toNat:Int)⟩,0):=by
  unfold leaseL overP
  rw[if_neg (by show¬z.st≠1;omega),if_neg hn0,if_neg (by omega)]
  show(((⟨3,wrap64 (z.ct+1),_,_⟩:L),(0:Int)))=_
  rw[hwr]
 have e:leaseQ q lane span=(becI q z ⟨3,z.ct+1,(q.now.toNat:Int)+span.toNat,((q.leases+1).toNat:Int)⟩,0,becQ {q with leases:=q.leases+1} z ⟨3,z.ct+1,(q.now.toNat:Int)+span.toNat,((q.leases+1).toNat:Int)⟩):=by
  unfold leaseQ
  rw[if_neg h0,h.peek,if_pos hs,if_neg (by simp)]
  dsimp only
  rw[hl]
  dsimp only
  rw[if_neg (by simp)]
 rw[e] at hw⊢
 dsimp only at hw⊢
 have h':∀i,look {q with leases:=q.leases+1} i=if i=z.id then some z else none:=h.lk
 obtain⟨a1,a2,a3,a4,-⟩:=becQ_same {q with leases:=q.leases+1} z ⟨3,z.ct+1,(q.now.toNat:Int)+span.toNat,((q.leases+1).toNat:Int)⟩
 refine⟨_,rfl,rfl,⟨hw,a1.trans h.la,a2.trans h.pa,a3.trans h.de,fun i=> ?_,h.ln⟩,rfl,rfl,rfl,?_,a4⟩
 · rw[look_bec (by show(3:Int)=1∨(3:Int)=2∨(3:Int)=3∨(3:Int)=4∨(3:Int)=5;omega)]
   have e5:¬(becI {q with leases:=q.leases+1} z ⟨3,z.ct+1,(q.now.toNat:Int)+span.toNat,((q.leases+1).toNat:Int)⟩).st=5:=by show¬(3:Int)=5;omega
   unfold entG
   rw[if_neg e5]
   unfold setG delG
   show(if i=z.id then some _ else if i=z.id then none else look q i)=if i=z.id then some _ else none
   by_cases e:i=z.id
   · rw[if_pos e,if_pos e];rfl
   · rw[if_neg e,if_neg e,if_neg e,h.lk,if_neg e]
 · have:=toN (n:=(q.now.toNat:Int)+span.toNat) (by omega) (by omega)
   show(UInt64.ofNat ((q.now.toNat:Int)+span.toNat).toNat).toNat=_
   omega
theorem One.lease0 (h:One la pa de lane z q) (hs:z.st≠1) {span:UInt64} (h0:span≠0):leaseQ q lane span=(it0,11,q):=by
 unfold leaseQ
 rw[if_neg h0,h.peek,if_neg hs,if_pos (by simp)]
theorem end_st (x:L) (de:Int):(endL x de).s=(if de≤x.c then 4 else 1)∧(endL x de).c=x.c:=by
 unfold endL
 split
 · exact⟨rfl,rfl⟩
 · exact⟨rfl,rfl⟩
theorem One.nack (h:One la pa de lane z q) (hs:z.st=3) (hw:WQ (nackQ q z.tok 0).2.2):∃y,(nackQ q z.tok 0).2.1=0∧One la pa de lane y (nackQ q z.tok 0).2.2∧y.id=z.id∧y.st=(if de≤z.ct then 4 else 1)∧y.ct=z.ct∧(nackQ q z.tok 0).2.2.now=q.now:=by
 have hh:q.hld.lookup z.tok=some z.id:=(h.wq.co.hld _ _).2 ⟨z,h.self,hs,rfl⟩
 obtain⟨l,hl⟩:∃l,(if de≤z.ct then endL z.l de else⟨1,z.ct,0,0⟩)=l:=⟨_,rfl⟩
 have hls:l.s=(if de≤z.ct then 4 else 1)∧l.c=z.ct:=by
  rw[←hl]
  split
  · rename_i k
    have:=end_st z.l de
    rw[show z.l.c=z.ct from rfl,if_pos k] at this
    exact this
  · exact⟨rfl,rfl⟩
 have e:nackQ q z.tok 0=(becI q z l,0,becQ q z l):=by
  unfold nackQ withQ
  rw[hh]
  dsimp only
  rw[h.get]
  have hk:nackL z.l z.tok.toNat q.now.toNat (0:UInt64).toNat q.del=(l,0):=by
   unfold nackL
   rw[if_pos ⟨hs,rfl⟩,h.de,←hl]
   show(if de≤z.ct then(endL z.l de,(0:Int)) else waitL z.l q.now.toNat (0:UInt64).toNat)=_
   split
   · rfl
   · unfold waitL
     rw[if_pos (by rfl)];rfl
  rw[hk,if_neg (by simp)]
 rw[e] at hw⊢
 dsimp only at hw⊢
 refine⟨_,rfl,h.bec (by rw[hls.1];split<;>omega) hw,rfl,hls.1,hls.2,(becQ_same q z l).2.2.2.1⟩
theorem One.tick (h:One la pa de lane z q) (hs:z.st=3) {span:UInt64} (hd:z.due.toNat=q.now.toNat+span.toNat) (hb:q.turns.toNat+300<18446744073709551615) (hw:WQ (tickQ q span).2.2):
 ∃y,(tickQ q span).1=1∧(tickQ q span).2.1=0∧One la pa de lane y (tickQ q span).2.2∧y.id=z.id∧y.st=(if de≤z.ct then 4 else 1)∧y.ct=z.ct∧(tickQ q span).2.2.now.toNat=q.now.toNat+span.toNat:=by
 have hdl:=z.due.toNat_lt
 have hno:¬18446744073709551615 - q.now<span:=by
  rw[UInt64.lt_iff_toNat_lt,UInt64.toNat_sub_of_le _ _ (by rw[UInt64.le_iff_toNat_le];have:=q.now.toNat_lt;show _≤18446744073709551615;omega)]
  have:(18446744073709551615:UInt64).toNat=18446744073709551615:=rfl
  omega
 have hnow:(q.now+span).toNat=q.now.toNat+span.toNat:=by rw[UInt64.toNat_add];omega
 have h':One la pa de lane z {q with now:=q.now+span}:=⟨h.wq.clock _,h.la,h.pa,h.de,h.lk,h.ln⟩
 obtain⟨r,hr⟩:∃r:QR,{q with now:=q.now+span}=r:=⟨_,rfl⟩
 have hrn:r.now.toNat=q.now.toNat+span.toNat:=by rw[←hr];exact hnow
 have hrt:r.turns=q.turns:=by rw[←hr]
 have e:tickQ q span=((tickL 201 r).1,0,(tickL 201 r).2):=by unfold tickQ;rw[if_neg hno,hr]
 rw[hr] at h'
 rw[e] at hw⊢
 dsimp only at hw⊢
 clear e
 have hdue:dueI r=[z]:=by
  unfold dueI
  rw[h'.its,List.filter_cons_of_pos,List.filter_nil]
  rw[decide_eq_true_eq,UInt64.le_iff_toNat_le]
  exact⟨.inr hs,by omega⟩
 have hle:leastI (dueI r)=some z:=by rw[hdue];rfl
 obtain⟨l,hl⟩:∃l,passL z.l r.now.toNat r.del=l:=⟨_,rfl⟩
 have hls:l.s=(if de≤z.ct then 4 else 1)∧l.c=z.ct:=by
  rw[←hl]
  unfold passL
  rw[if_neg (by show¬(r.now.toNat:Int)<(z.due.toNat:Int);omega),if_neg (by show¬z.st=2;omega),if_pos (by exact hs),h'.de]
  exact end_st z.l de
 have h1s:l.s=1∨l.s=4:=by rw[hls.1];split<;>omega
 obtain⟨k,hk⟩:∃k,k=200:=⟨_,rfl⟩
 have e1:tickL 201 r=((tickL k (becQ r z l)).1+1,(tickL k (becQ r z l)).2):=by
  rw[show 201=k+1 by omega,tickL,hle]
  dsimp only
  rw[hl]
 have hw2:WQ (becQ r z l):=by
  rw[←hl]
  exact h'.wq.pass h'.self (.inr hs) (by rw[UInt64.le_iff_toNat_le];omega) (by rw[hrt];omega)
 have h2:=h'.bec (l:=l) (by omega) hw2
 have hd2:dueI (becQ r z l)=[]:=by
  unfold dueI
  rw[h2.its,List.filter_cons_of_neg,List.filter_nil]
  rw[decide_eq_true_eq]
  rintro⟨a,-⟩
  have:(becI r z l).st=l.s:=rfl
  omega
 have e2:tickL k (becQ r z l)=(0,becQ r z l):=by
  cases k with
  |zero=>rfl
  |succ k=>rw[tickL,leastI_none.2 hd2]
 rw[e1,e2]
 dsimp only
 exact⟨_,rfl,rfl,h2,rfl,hls.1,hls.2,by rw[(becQ_same r z l).2.2.2.1];exact hrn⟩
theorem One.requeue (h:One la pa de lane z q) (hs:z.st=4) (hw:WQ (deadQ q z.id 1).2):∃y,(deadQ q z.id 1).1=0∧One la pa de lane y (deadQ q z.id 1).2∧y.id=z.id∧y.st=1∧y.ct=0∧(deadQ q z.id 1).2.now=q.now:=by
 have e:deadQ q z.id 1=(0,becQ q z ⟨1,0,0,0⟩):=by
  unfold deadQ
  dsimp only
  rw[h.get]
  have hk:deadL z.l 1=(⟨1,0,0,0⟩,0):=by
   unfold deadL
   exact if_pos hs
  rw[hk,if_neg (by simp)]
 rw[e] at hw⊢
 dsimp only at hw⊢
 exact⟨_,rfl,h.bec (.inl rfl) hw,rfl,rfl,rfl,(becQ_same q z _).2.2.2.1⟩
theorem One.purge (h:One la pa de lane z q) (hs:z.st=4):(deadQ q z.id 5).1=0∧(deadQ q z.id 5).2.its=[]:=by
 have e:deadQ q z.id 5=(0,becQ q z ⟨5,0,0,0⟩):=by
  unfold deadQ
  dsimp only
  rw[h.get]
  have hk:deadL z.l 5=(⟨5,0,0,0⟩,0):=by
   unfold deadL
   exact if_pos hs
  rw[hk,if_neg (by simp)]
 rw[e]
 refine⟨rfl,list_none fun b hb=> ?_⟩
 have h1:look (becQ q z ⟨5,0,0,0⟩) b.1=none:=by
  rw[look_bec (.inr (.inr (.inr (.inr rfl))))]
  unfold entG
  rw[if_pos (by rfl)]
  unfold delG
  split
  · rfl
  · rename_i e;rw[h.lk,if_neg e]
 unfold look at h1
 rw[lku_none] at h1
 exact h1 (List.mem_map.2 ⟨b,hb,rfl⟩)
theorem One.dead (h:One la pa de lane z q) (hs:z.st=4):cntT (q.its.map Prod.snd) 4=1:=by
 rw[h.its]
 simp[cntT,hs]
end
theorem One.put {N:Nat} {la pa de lane:Int} {q:QR} (h:MadeR N la pa de s0R q) (h0:0≤lane) (h1:lane<la) (hw:WQ (putQ q lane 0 0 0 0).2.2):
 ∃y,(putQ q lane 0 0 0 0).1=1∧(putQ q lane 0 0 0 0).2.1=0∧One la pa de lane y (putQ q lane 0 0 0 0).2.2∧y.id=1∧y.st=1∧y.ct=0∧(putQ q lane 0 0 0 0).2.2.now=0:=by
 have hnow:q.now=0:=congrArg SR.now h.st
 have hnext:q.next=1:=congrArg SR.next h.st
 have hits:q.its=[]:=by
  have hi:sortN (q.its.map Prod.snd)=[]:=congrArg SR.items h.st
  have:=(sortN_perm (q.its.map Prod.snd)).length_eq
  rw[hi,List.length_map] at this
  exact List.length_eq_zero_iff.1 this.symm
 have hcf:=h.xq.wi.wq.cf
 have e:putQ q lane 0 0 0 0=(1,0,{becQ q (newI q lane 0 0 0) ⟨1,0,0,0⟩ with next:=q.next+1}):=by
  unfold putQ
  rw[if_neg (by rw[h.la];have:=hcf;omega),if_neg (by rw[hits];simp),if_neg (by rw[hnext];decide),hnow,if_neg (by decide),hnext]
  rfl
 rw[e] at hw⊢
 dsimp only at hw⊢
 obtain⟨a1,a2,a3,a4,-⟩:=becQ_same q (newI q lane 0 0 0) ⟨1,0,0,0⟩
 refine⟨becI q (newI q lane 0 0 0) ⟨1,0,0,0⟩,rfl,rfl,⟨hw,a1.trans h.la,a2.trans h.pa,a3.trans h.de,fun i=> ?_,rfl⟩,hnext,rfl,rfl,a4.trans hnow⟩
 show look (becQ q (newI q lane 0 0 0) ⟨1,0,0,0⟩) i=_
 rw[look_bec (.inl rfl)]
 unfold entG
 rw[if_neg (by show¬(1:Int)=5;omega)]
 unfold setG delG
 show(if i=q.next then some _ else if i=q.next then none else look q i)=if i=q.next then some _ else none
 by_cases e:i=q.next
 · rw[if_pos e,if_pos e]
 · rw[if_neg e,if_neg e,if_neg e]
   unfold look
   rw[hits];rfl
end Go.Proofs.YtcfgafododiioaaGreatDoor
set_option maxRecDepth 100000
namespace Go.Proofs.YtcfgafododiioaaGreatDoor
open Go Go.RowKit Go.Tum Go.ChangeMaps Go.Sort
structure Dy (n T:Nat) (la pa de lane:Int) (z:It) (q:QR):Prop where
 o:One la pa de lane z q
 xq:XQ (300*n) q
 id:z.id=1
 nw:q.now.toNat≤T
theorem Dy.mono {n m T S:Nat} {la pa de lane:Int} {z:It} {q:QR} (h:Dy n T la pa de lane z q) (k:n≤m) (l:T≤S):Dy m S la pa de lane z q:=⟨h.o,h.xq.mono (by omega),h.id,by have:=h.nw;omega⟩
theorem xq_of {N:Nat} {q:QR} {a:Ai} {k:Kd} {r:QR} (h:XQ N q) (hN:N+300≤5000000000000000000) (hk:kindI a=k) (hr:(actB q a k).2=r):XQ (N+300) r:=by
 have:=h.act hN a
 unfold actI at this
 rw[hk,hr] at this
 exact this
section
variable {B n T : Nat} {w : World} {p : Nat} {x : XP} {q : QR} {la pa de lane : Int} {z : It}
theorem dy_put {w:World} (h:IX B w p x q) (hM:MadeR 0 la pa de s0R q) (h0:0≤lane) (h1:lane<la):
 Calls Tryz.prog 31 #[pv p,.int .i64 lane,vU 0,.agg #[vU 0,vU 0,.int .i64 0]] w fun e w'=>e= .returned (.tuple #[vU 1,.int .i64 0])∧∃x' q' z',IX B w' p x' q'∧Dy 1 0 la pa de lane z' q'∧z'.st=1∧z'.ct=0∧Below B w w':=by
 refine(put_any11 lane 0 0 0 0 h h.bs hM.xq.wi.wq).mono ?_
 rintro e w' ⟨rfl,hst⟩
 have hx:=xq_of (a:=⟨0,lane,0,0,0,[],0,0,0⟩) (k:= .a0) hM.xq (by decide) (by unfold kindI;simp) (by rw[actB0])
 dsimp only at hx
 obtain⟨y,e1,e2,o,i1,i2,i3,i4⟩:=One.put hM h0 h1 hx.wi.wq
 obtain⟨x',i',bl,-⟩:=hst.keep h.blo h.bs
 exact⟨by rw[e1,e2],x',_,y,i',⟨o,hx.mono (by omega),i1,by rw[i4];exact Nat.le_refl _⟩,i2,i3,bl⟩
theorem dy_lease (h:IX B w p x q) (hd:Dy n T la pa de lane z q) (hn:n≤1000) (hs:z.st=1) {span:UInt64} (h0:span≠0) (hT:T+span.toNat<18446744073709551616):
 Calls Tryz.prog 33 #[pv p,.int .i64 lane,vU span] w fun e w'=>∃x' q' z',e= .returned (.tuple #[itV z',.int .i64 0])∧IX B w' p x' q'∧Dy (n+1) T la pa de lane z' q'∧z'.st=3∧z'.ct=z.ct+1∧z'.due.toNat=q'.now.toNat+span.toNat∧Below B w w':=by
 refine(lease_any11 lane span h h.bs hd.xq.wi.wq (by have:=hd.xq.wi.lo.le;omega)).mono ?_
 rintro e w' ⟨rfl,hst⟩
 have hx:=xq_of (a:=⟨1,lane,0,0,span,[],0,0,0⟩) (k:= .a1) hd.xq (by omega) (by unfold kindI;simp) (by rw[actB1])
 dsimp only at hx
 obtain⟨y,e1,e2,o,i1,i2,i3,i4,i5⟩:=hd.o.lease hs h0 (by have:=hd.nw;omega) hx.wi.wq
 obtain⟨x',i',bl,-⟩:=hst.keep h.blo h.bs
 exact⟨x',_,y,by rw[e1,e2],i',⟨o,hx.mono (by omega),i1.trans hd.id,by rw[i5];exact hd.nw⟩,i2,i3,by rw[i5];exact i4,bl⟩
theorem dy_lease0 (h:IX B w p x q) (hd:Dy n T la pa de lane z q) (hn:n≤1000) (hs:z.st≠1) {span:UInt64} (h0:span≠0):
 Calls Tryz.prog 33 #[pv p,.int .i64 lane,vU span] w fun e w'=>∃x',e= .returned (.tuple #[itV it0,.int .i64 11])∧IX B w' p x' q∧Below B w w':=by
 refine(lease_any11 lane span h h.bs hd.xq.wi.wq (by have:=hd.xq.wi.lo.le;omega)).mono ?_
 rintro e w' ⟨rfl,hst⟩
 rw[hd.o.lease0 hs h0] at hst⊢
 obtain⟨x',i',bl,-⟩:=hst.keep h.blo h.bs
 exact⟨x',rfl,i',bl⟩
theorem dy_nack (h:IX B w p x q) (hd:Dy n T la pa de lane z q) (hn:n≤1000) (hs:z.st=3):
 Calls Tryz.prog 35 #[pv p,vU z.tok,vU 0] w fun e w'=>∃x' q' z' it,e= .returned (.tuple #[itV it,.int .i64 0])∧IX B w' p x' q'∧Dy (n+1) T la pa de lane z' q'∧z'.st=(if de≤z.ct then 4 else 1)∧z'.ct=z.ct∧Below B w w':=by
 refine(xnck_any z.tok 0 h h.bs hd.xq.wi.wq).mono ?_
 rintro e w' ⟨rfl,hst⟩
 have hx:=xq_of (a:=⟨3,0,0,z.tok,0,[],0,0,0⟩) (k:= .a3) hd.xq (by omega) (by unfold kindI;simp) (by rw[actB3])
 dsimp only at hx
 obtain⟨y,e1,o,i1,i2,i3,i4⟩:=hd.o.nack hs hx.wi.wq
 obtain⟨x',i',bl,-⟩:=hst.keep h.blo h.bs
 exact⟨x',_,y,_,by rw[e1],i',⟨o,hx.mono (by omega),i1.trans hd.id,by rw[i4];exact hd.nw⟩,i2,i3,bl⟩
theorem dy_tick (h:IX B w p x q) (hd:Dy n T la pa de lane z q) (hn:n≤1000) (hs:z.st=3) {span:UInt64} (hdu:z.due.toNat=q.now.toNat+span.toNat):
 Calls Tryz.prog 34 #[pv p,vU span] w fun e w'=>∃x' q' z',e= .returned (.tuple #[.int .i64 1,.int .i64 0])∧IX B w' p x' q'∧Dy (n+1) (T+span.toNat) la pa de lane z' q'∧z'.st=(if de≤z.ct then 4 else 1)∧z'.ct=z.ct∧Below B w w':=by
 obtain⟨R,hR⟩:∃R,tickQ q span=R:=⟨_,rfl⟩
 have hx:=act_tick2 hd.xq (by omega) span hR
 have ht:= @One.tick la pa de lane z q hd.o hs span hdu (by have:=hd.xq.wi.lo.tu;omega)
 have hc:=tick_any11 span h h.bs hd.xq.wi.wq (by have:=hd.xq.wi.lo.tu;omega)
 rw[hR] at ht hc
 refine hc.mono ?_
 rintro e w' ⟨rfl,hst⟩
 obtain⟨y,e1,e2,o,i1,i2,i3,i4⟩:=ht hx.wi.wq
 obtain⟨x',i',bl,-⟩:=hst.keep h.blo h.bs
 exact⟨x',_,y,by rw[e1,e2];rfl,i',⟨o,hx.mono (by omega),i1.trans hd.id,by have:=hd.nw;omega⟩,i2,i3,bl⟩
theorem dy_requeue (h:IX B w p x q) (hd:Dy n T la pa de lane z q) (hn:n≤1000) (hs:z.st=4):
 Calls Tryz.prog 36 #[pv p,vU 1] w fun e w'=>∃x' q' z',e= .returned (.int .i64 0)∧IX B w' p x' q'∧Dy (n+1) T la pa de lane z' q'∧z'.st=1∧z'.ct=0∧Below B w w':=by
 rw[←hd.id]
 refine(xrequeue_any z.id h h.bs hd.xq.wi.wq).mono ?_
 rintro e w' ⟨rfl,hst⟩
 have hx:=xq_of (a:=⟨6,0,0,z.id,0,[],0,0,0⟩) (k:= .a6) hd.xq (by omega) (by unfold kindI;simp) (by rw[actB6])
 dsimp only at hx
 obtain⟨y,e1,o,i1,i2,i3,i4⟩:=hd.o.requeue hs hx.wi.wq
 obtain⟨x',i',bl,-⟩:=hst.keep h.blo h.bs
 exact⟨x',_,y,by rw[e1],i',⟨o,hx.mono (by omega),i1.trans hd.id,by rw[i4];exact hd.nw⟩,i2,i3,bl⟩
theorem dy_purge (h:IX B w p x q) (hd:Dy n T la pa de lane z q) (hn:n≤1000) (hs:z.st=4):
 Calls Tryz.prog 37 #[pv p,vU 1] w fun e w'=>∃x' q',e= .returned (.int .i64 0)∧IX B w' p x' q'∧WQ q'∧q'.its=[]∧Below B w w':=by
 rw[←hd.id]
 refine(xpurge_any z.id h h.bs hd.xq.wi.wq).mono ?_
 rintro e w' ⟨rfl,hst⟩
 have hx:=xq_of (a:=⟨7,0,0,z.id,0,[],0,0,0⟩) (k:= .a7) hd.xq (by omega) (by unfold kindI;simp) (by rw[actB7])
 dsimp only at hx
 obtain⟨e1,e2⟩:=hd.o.purge hs
 obtain⟨x',i',bl,-⟩:=hst.keep h.blo h.bs
 exact⟨x',_,by rw[e1],i',hx.wi.wq,e2,bl⟩
theorem dead_stats (h:IX B w p x q) (hq:WQ q) {d:Nat} (hd:cntT (q.its.map Prod.snd) 4=d):
 Calls Tryz.prog 26 #[pv p] w fun e w'=>(∃a b c d1 d2,e= .returned (.agg #[a,b,c,d1,d2,.int .i64 (d:Int)]))∧Ext w w':=by
 refine(stats_any h hq).mono ?_
 rintro e w' ⟨⟨ro,rc,k,hk,rfl,ho⟩,hx⟩
 exact⟨⟨_,_,_,_,_,by rw[←hd]⟩,hx⟩
end
end Go.Proofs.YtcfgafododiioaaGreatDoor
set_option maxRecDepth 100000
namespace Go.Proofs.YtcfgafododiioaaGreatDoor
open Go Go.RowKit Go.Tum Go.ChangeMaps Go.Sort
open Go.ParB (upd Lof)
open Go.ParE (putS slotsR slots Closed)
def BoolsOf (w:World) (v:Value) (l:List Bool):Prop:=∃ao cap,v= .slice ao l.length cap∧l.length≤cap∧cap≤9223372036854775807∧(0<l.length→∃a,ao=some a)∧∀a,ao=some a→∀i (h:i<l.length),w.cell? (a.add i)=some (.bool l[i])
theorem open_flags {H:Type} {enc:TypeId×Value→H} {w:World} {base:Nat} {held:Bool} {v:Value} {d:DataW H} {p:List MemPlace} {r:Reach} {b0:Nat} (hval:Value.okWide Tryz.prog w r b0 89 v) (h:DataW.Trod enc Tryz.prog w base (fun _=>true) held 89 v d p):∃l:List Bool,BoolsOf w v l:=by
 obtain⟨a,len,cap,rfl⟩:=Go.WideShapes.okWide_slice Tryz.underlying89 hval
 obtain⟨fuel,hf⟩:=h
 replace hf:DataW.trod enc Tryz.prog w base (fun _=>true) held fuel 89 [.slice a len cap]=some (d,p):=hf
 rcases Go.Deep.open_bools Tryz.underlying89 Tryz.underlying4 (by kernel_rfl) hf with ⟨h0,_⟩|⟨a,len,cap,F,hcs,hb,hl,hm,hx,hc⟩
 · simp at h0
   obtain⟨rfl,rfl,rfl⟩:=h0
   exact⟨[],none,0,rfl,by simp,by omega,fun h=>by simp at h,fun a ha=>by cases ha⟩
 · simp at hcs
   obtain⟨rfl,rfl,rfl⟩:=hcs
   refine⟨(List.range len).map F,some a,cap,by simp,by simpa using hl,by simpa[maxLen] using hm,fun _=>⟨a,rfl⟩,fun b hb i hi=> ?_⟩
   cases hb
   rw[hc i (by simp at hi;omega)]
   simp
theorem dies_up (a:Nat) (h:a≤100):wrap64 ((a:Int)+1)=((a+1:Nat):Int):=by
 unfold wrap64
 omega
theorem stats_dead (a b c d1 d2:Value) (n:Int) (w:World):(Instr.field 69 (.agg #[a,b,c,d1,d2,.int .i64 n]) 5).run Tryz.prog w= .ok (.int .i64 n) w:=by kernel_rfl
structure DyR (k j T:Nat) (la pa de lane:Int) (z:It) (q:QR):Prop where
 d:Dy (1+50*k+2*j) T la pa de lane z q
 st:z.st=if de≤(j:Int) then 4 else 1
 ct:z.ct=(j:Int)
set_option maxHeartbeats 2000000 in
theorem indexDies_law (la pa de lane:Int) (span:UInt64) (v:Value) (lf:List Bool) (w:World) (hl:BoolsOf w v lf) (ht:TB w):
 Calls Tryz.prog 8 #[ccV la pa de,.int .i64 lane,vU span,v] w fun e w'=>e= .returned (.bool true)∧Ext w w':=by
 have HT:=hid ht
 obtain⟨ao,cap,rfl,hle,hm,hnn,hcell⟩:=hl
 have HNN:=hid hnn
 have HC:=hid hcell
 obtain⟨W1,hW1⟩:∃W,w.alloc (ccO la pa de)=W:=⟨_,rfl⟩
 have HE1:Hid (Ext w W1):=hid (by rw[←hW1];exact Ext.alloc _ _)
 have HB1:Hid (W1.heap[w.heap.size]? =some (ccO la pa de)):=hid (by rw[←hW1];exact heap_alloc_new _ _)
 have HLB:Hid (w.heap.size<W1.heap.size):=hid (by rw[←hW1];simp)
 clear hcell hnn ht
 go_enter Tryz.func8,Tryz.ntmps8
 go_wp2_with fail
 clear hW1
 obtain⟨cb,hcb⟩:∃c,w.heap.size=c:=⟨_,rfl⟩
 have HCB:Hid (w.heap.size=cb):=hid hcb
 rw[hcb] at HB1
 try rw[hcb]
 clear hcb
 refine(awake11_any W1 (TBx HT.out HE1.out)).mono ?_
 rintro e w4 ⟨rfl,hx⟩
 have HX4:Hid (Ext W1 w4):=hid hx
 have HE4:=hid (HE1.out.trans hx)
 clear hx
 obtain⟨x0,x1,x2,-⟩:=lk3 (HX4.out.obj HB1.out)
 go_wp2_with fail
 clear x0 x1 x2
 refine(inew_any la pa de (TBx HT.out HE4.out)).mono ?_
 rintro e w5 ⟨hn,hx⟩
 have HE5:=hid (HE4.out.trans hx)
 have HCX5:Hid (w5.heap[cb]? =some (ccO la pa de)):=hid (hx.obj (HX4.out.obj HB1.out))
 clear hx
 obtain⟨rc,hrc⟩:∃b,rightC la pa de=b:=⟨_,rfl⟩
 rw[hrc] at hn
 have HRC:=hid hrc
 clear hrc
 cases rc
 case false=>
  rw[if_neg (by simp)] at hn
  subst hn
  go_wp2
  go_returns
  exact⟨rfl,HE5.out⟩
 rw[if_pos rfl] at hn
 obtain⟨p,x,q,rfl,hI,hM⟩:=hn
 obtain⟨B,hB⟩:∃B,W1.heap.size=B:=⟨_,rfl⟩
 have hI0:=hI.lower HX4.out.size
 rw[hB] at hI0 HLB
 have HLBx:Hid (cb<B∧w.heap.size≤B):=hid (by rw[←HCB.out];exact⟨HLB.out,Nat.le_of_lt HLB.out⟩)
 have HI5:Hid (IX B w5 p x q):=hid hI0
 have HM5:=hid hM
 have HDE:Hid (1≤de∧de≤20):=hid (by have:=HRC.out;unfold rightC at this;simp at this;omega)
 clear hI hM hI0 hB HX4 HE4 HE1 HB1 HLB
 obtain⟨x0,x1,x2,-⟩:=lk3 HCX5.out
 by_cases h1:lane<0
 · have hd1:decide (lane<(0:Int))=true:=by simpa using h1
   clear h1
   go_wp2
   go_returns
   exact⟨rfl,HE5.out⟩
 have hd1:decide (lane<(0:Int))=false:=by simpa using h1
 have H1:=hid h1
 clear h1
 by_cases h2:la≤lane
 · have hd2:decide (la≤lane)=true:=by simpa using h2
   clear h2
   go_wp2
   go_returns
   exact⟨rfl,HE5.out⟩
 have hd2:decide (la≤lane)=false:=by simpa using h2
 have H2:=hid h2
 clear h2
 by_cases h3:span=0
 · subst h3
   go_wp2
   go_returns
   exact⟨rfl,HE5.out⟩
 have HS0:=hid h3
 obtain⟨sn,hsn⟩:∃n:Int,(span.toNat:Int)=n:=⟨_,rfl⟩
 have HSN:=hid hsn
 have hd3:(sn==(0:Int))=false:=by
  rw[←hsn]
  refine beq_eq_false_iff_ne.2 fun e=>h3 (UInt64.toNat_inj.1 ?_)
  show span.toNat=0
  omega
 clear h3
 have hV:vU span= .int .u64 sn:=by rw[←hsn]
 try rw[hV]
 clear hsn hV
 by_cases h4:(4294967296:Int)<sn
 · have hd4:decide ((4294967296:Int)<sn)=true:=by simpa using h4
   clear h4
   go_wp2
   go_returns
   exact⟨rfl,HE5.out⟩
 have hd4:decide ((4294967296:Int)<sn)=false:=by simpa using h4
 have H4:=hid h4
 have HSP:Hid (vU span= .int .u64 sn∧span.toNat≤4294967296):=hid (by have:=HSN.out;exact⟨by rw[←this],by omega⟩)
 clear h4
 go_wp2_with fail
 clear x0 x1 x2 hd1 hd2 hd3 hd4
 refine(dy_put HI5.out HM5.out (by have:=H1.out;omega) (by have:=H2.out;omega)).mono ?_
 rintro e w6 ⟨rfl,x6,q6,z6,i6,d6,s6,c6,b6⟩
 have HI6:=hid i6
 have HE6:Hid (Ext w w6):=hid (Below.trans HE5.out (b6.mono HLBx.out.2))
 have HCX6:Hid (w6.heap[cb]? =some (ccO la pa de)):=hid ((b6.block cb HLBx.out.1).trans HCX5.out)
 have HD6:Hid (DyR 0 0 (4294967296*(20*0)) la pa de lane z6 q6):=hid ⟨d6,by have:=HDE.out;rw[if_neg (by omega),s6],c6⟩
 clear i6 d6 s6 c6 b6 HI5 HM5 HE5 HCX5
 go_wp2
 go_loopw [61] (fun i wr=>∃(k:Nat) (x:XP) (q:QR) (z:It),k≤2∧i= .int .i64 (k:Int)∧Hid (IX B wr p x q)∧Hid (if k=2 then Dy (1+50*k) (4294967296*(20*k)) la pa de lane z q∧z.st=4 else DyR k 0 (4294967296*(20*k)) la pa de lane z q)∧Hid (Ext w wr)∧Hid (wr.heap[cb]? =some (ccO la pa de))) (fun i _=>2 - (intOf i).toNat)
 case atStart=>exact⟨0,x6,q6,z6,by decide,rfl,HI6,hid (by rw[if_neg (by decide)];exact HD6.out),HE6,HCX6⟩
 case round=>
  clear HI6 HD6 HE6 HCX6 x6 q6 z6 x q
  obtain⟨k,x,q,z,hk,rfl,HI,HD,HE,HCX⟩:=hrel
  by_cases hlt:k<2
  · have hi1:decide (k<2)=true:=by simpa using hlt
    have hi2:decide ((k:Int)<2)=true:=by simp;omega
    have HK:=hid hlt
    have HD0:Hid (DyR k 0 (4294967296*(20*k+0)) la pa de lane z q):=hid (by have:=HD.out;rw[if_neg (by omega)] at this;exact this)
    obtain⟨x0,x1,x2,-⟩:=lk3 HCX.out
    clear hlt hk HD
    go_wp2
    clear x0 x1 x2 hi1 hi2
    go_loopw [66] (fun i wr=>∃(j:Nat) (x:XP) (q:QR) (z:It),(j:Int)≤de∧i= .int .i64 (j:Int)∧Hid (IX B wr p x q)∧Hid (DyR k j (4294967296*(20*k+j)) la pa de lane z q)∧Hid (Ext w wr)∧Hid (wr.heap[cb]? =some (ccO la pa de))) (fun i _=>de.toNat - (intOf i).toNat)
    case atStart=>exact⟨0,x,q,z,by have:=HDE.out;omega,rfl,HI,HD0,HE,HCX⟩
    case round=>
     clear HI HD0 HE HCX x q z
     obtain⟨j,x,q,z,hj,rfl,HI,HD,HE,HCX⟩:=hrel
     by_cases hlt:(j:Int)<de
     · have hi1:decide ((j:Int)<de)=true:=by simpa using hlt
       have HJ:=hid hlt
       have hst:z.st=1:=by have:=HD.out.st;rw[if_neg (by omega)] at this;exact this
       have hcl:=dy_lease HI.out HD.out.d (by have:=HK.out;have:=HDE.out;omega) hst HS0.out (by have:=HSP.out.2;have:=HK.out;have:=HDE.out;omega)
       have HCT:=hid HD.out.ct
       rw[HSP.out.1] at hcl
       clear hlt hj hst HD
       go_wp2_with fail
       clear hi1
       refine hcl.mono ?_
       clear hcl
       rintro e w7 ⟨x7,q7,z7,rfl,i7,d7,s7,c7,u7,b7⟩
       have HI7:=hid i7
       have HD7:=hid d7
       have HE7:Hid (Ext w w7):=hid (Below.trans HE.out (b7.mono HLBx.out.2))
       have HCX7:Hid (w7.heap[cb]? =some (ccO la pa de)):=hid ((b7.block cb HLBx.out.1).trans HCX.out)
       rw[HCT.out] at c7
       obtain⟨ci,hci⟩:∃c:Int,wrap64 ((j:Int)+1)=c:=⟨_,rfl⟩
       have HCI:Hid (ci=((j+1:Nat):Int)):=hid (by rw[←hci];exact dies_up j (by have:=HJ.out;have:=HDE.out;omega))
       have hc7:z7.ct=ci:=by rw[c7,HCI.out];omega
       have HS7:Hid (z7.st=3∧z7.ct=((j+1:Nat):Int)∧z7.due.toNat=q7.now.toNat+span.toNat):=hid ⟨s7,by rw[c7];omega,u7⟩
       have hid7:=d7.id
       clear i7 d7 u7 b7 c7 HI HE HCX HCT
       have HCI7:=HCI
       clear HCI
       have HTK:Hid (∀W,Ext w7 W→Calls Tryz.prog 34 #[pv p,.int .u64 sn] W fun e w'=>∃x' q' z',e= .returned (.tuple #[.int .i64 1,.int .i64 0])∧IX B w' p x' q'∧Dy (1+50*k+2*j+1+1) (4294967296*(20*k+j)+span.toNat) la pa de lane z' q'∧z'.st=(if de≤z7.ct then 4 else 1)∧z'.ct=z7.ct∧Below B W w'):=hid fun W hW=>by
        rw[←HSP.out.1]
        exact dy_tick (HI7.out.ext hW) HD7.out (by have:=HK.out;have:=HJ.out;have:=HDE.out;omega) HS7.out.1 HS7.out.2.2
       have HNK:Hid (∀W,Ext w7 W→Calls Tryz.prog 35 #[pv p,vU z7.tok,.int .u64 0] W fun e w'=>∃x' q' z' it,e= .returned (.tuple #[itV it,.int .i64 0])∧IX B w' p x' q'∧Dy (1+50*k+2*j+1+1) (4294967296*(20*k+j)) la pa de lane z' q'∧z'.st=(if de≤z7.ct then 4 else 1)∧z'.ct=z7.ct∧Below B W w'):=hid fun W hW=>
        dy_nack (HI7.out.ext hW) HD7.out (by have:=HK.out;have:=HJ.out;have:=HDE.out;omega) HS7.out.1
       obtain⟨zi,zl,zs,zc,zd,zt,zu,zg,zp,zz⟩:=z7
       dsimp only at hc7 s7 hid7 HS7 HTK HNK
       subst hid7 s7 hc7
       have hne:(zc !=(j:Int)+1)=false:=by have:=HCI7.out;simp;omega
       obtain⟨z7,hz7⟩:∃z:It,z=⟨1,zl,3,zc,zd,zt,zu,zg,zp,zz⟩:=⟨_,rfl⟩
       clear hz7 HD7
       by_cases hjl:j<lf.length
       · obtain⟨a0,rfl⟩:=HNN.out (by omega)
         have hcl:∀o,(w7.alloc o).cell? (a0.add j)=some (.bool lf[j]):=fun o=>(HE7.out.trans (Ext.alloc w7 o)).cell (HC.out a0 rfl j hjl)
         have hi3:decide ((j:Int)<(lf.length:Int))=true:=by simp;omega
         obtain⟨bv,hbv⟩:∃b,lf[j]=b:=⟨_,rfl⟩
         rw[hbv] at hcl
         clear hbv
         cases bv
         case false=>
          go_wp2_with fail
          clear hci hne
          refine(HNK.out _ (Ext.alloc w7 _)).mono ?_
          rintro e w8 ⟨x8,q8,z8,it8,rfl,i8,d8,s8,c8,b8⟩
          have HE8:Hid (Ext w w8):=hid (Below.trans (HE7.out.trans (Ext.alloc w7 _)) (b8.mono HLBx.out.2))
          have HCX8:Hid (w8.heap[cb]? =some (ccO la pa de)):=hid ((b8.block cb HLBx.out.1).trans ((Ext.alloc w7 _).obj HCX7.out))
          have HD8:Hid (DyR k (j+1) (4294967296*(20*k+(j+1))) la pa de lane z8 q8):=hid ⟨d8.mono (by omega) (by have:=HSP.out.2;omega),by rw[s8,HS7.out.2.1],c8.trans HS7.out.2.1⟩
          have HI8:=hid i8
          have HJ1:Hid (((j+1:Nat):Int)≤de):=hid (by have:=HJ.out;omega)
          clear i8 d8 s8 c8 b8 HE7 HCX7 HTK HNK HI7
          have hjb:j≤20:=by have:=HJ.out;have:=HDE.out;omega
          go_wp2
          go_roundw
          case rel=>exact⟨j+1,x8,q8,z8,HJ1.out,by go_num,hid (HI8.out.ext (Ext.alloc _ _)),HD8,hid (HE8.out.trans (Ext.alloc _ _)),hid ((Ext.alloc _ _).obj HCX8.out)⟩
          case measure=>simp[intOf];have:=HJ.out;omega
         case true=>
          go_wp2_with fail
          clear hci hne
          refine(HTK.out _ (Ext.alloc w7 _)).mono ?_
          rintro e w8 ⟨x8,q8,z8,rfl,i8,d8,s8,c8,b8⟩
          have HE8:Hid (Ext w w8):=hid (Below.trans (HE7.out.trans (Ext.alloc w7 _)) (b8.mono HLBx.out.2))
          have HCX8:Hid (w8.heap[cb]? =some (ccO la pa de)):=hid ((b8.block cb HLBx.out.1).trans ((Ext.alloc w7 _).obj HCX7.out))
          have HD8:Hid (DyR k (j+1) (4294967296*(20*k+(j+1))) la pa de lane z8 q8):=hid ⟨d8.mono (by omega) (by have:=HSP.out.2;omega),by rw[s8,HS7.out.2.1],c8.trans HS7.out.2.1⟩
          have HI8:=hid i8
          have HJ1:Hid (((j+1:Nat):Int)≤de):=hid (by have:=HJ.out;omega)
          clear i8 d8 s8 c8 b8 HE7 HCX7 HTK HNK HI7
          have hjb:j≤20:=by have:=HJ.out;have:=HDE.out;omega
          go_wp2
          go_roundw
          case rel=>exact⟨j+1,x8,q8,z8,HJ1.out,by go_num,HI8,HD8,HE8,HCX8⟩
          case measure=>simp[intOf];have:=HJ.out;omega
       · have hi3:decide (j<lf.length)=false:=by simpa using hjl
         clear hjl
         go_wp2_with fail
         clear hci hne
         refine(HNK.out _ (Ext.alloc w7 _)).mono ?_
         rintro e w8 ⟨x8,q8,z8,it8,rfl,i8,d8,s8,c8,b8⟩
         have HE8:Hid (Ext w w8):=hid (Below.trans (HE7.out.trans (Ext.alloc w7 _)) (b8.mono HLBx.out.2))
         have HCX8:Hid (w8.heap[cb]? =some (ccO la pa de)):=hid ((b8.block cb HLBx.out.1).trans ((Ext.alloc w7 _).obj HCX7.out))
         have HD8:Hid (DyR k (j+1) (4294967296*(20*k+(j+1))) la pa de lane z8 q8):=hid ⟨d8.mono (by omega) (by have:=HSP.out.2;omega),by rw[s8,HS7.out.2.1],c8.trans HS7.out.2.1⟩
         have HI8:=hid i8
         have HJ1:Hid (((j+1:Nat):Int)≤de):=hid (by have:=HJ.out;omega)
         clear i8 d8 s8 c8 b8 HE7 HCX7 HTK HNK HI7
         have hjb:j≤20:=by have:=HJ.out;have:=HDE.out;omega
         go_wp2
         go_roundw
         case rel=>exact⟨j+1,x8,q8,z8,HJ1.out,by go_num,hid (HI8.out.ext (Ext.alloc _ _)),HD8,hid (HE8.out.trans (Ext.alloc _ _)),hid ((Ext.alloc _ _).obj HCX8.out)⟩
         case measure=>simp[intOf];have:=HJ.out;omega
     · have hi1:decide ((j:Int)<de)=false:=by simpa using hlt
       obtain rfl:de=(j:Int):=by omega
       have hst:z.st=4:=by have:=HD.out.st;rw[if_pos (Int.le_refl _)] at this;exact this
       have hcl:=dy_lease0 HI.out HD.out.d (by have:=HK.out;have:=HDE.out;omega) (by rw[hst];decide) HS0.out
       have HST:=hid hst
       rw[HSP.out.1] at hcl
       clear hlt hj hst
       go_wp2_with fail
       clear hi1
       refine hcl.mono ?_
       clear hcl
       rintro e w7 ⟨x7,rfl,i7,b7⟩
       have HI7:=hid i7
       have HE7:Hid (Ext w w7):=hid (Below.trans HE.out (b7.mono HLBx.out.2))
       have HCX7:Hid (w7.heap[cb]? =some (ccO la pa (j:Int))):=hid ((b7.block cb HLBx.out.1).trans HCX.out)
       clear i7 b7 HI HE HCX
       have hgt:∀W,Ext w7 W→Calls Tryz.prog 30 #[pv p,vU 1] W fun e w'=>e= .returned (.tuple #[itV z,.bool true])∧Ext W w':=fun W hW=>by
        refine(get_any 1 (HI7.out.ext hW)).mono ?_
        rintro e w' ⟨rfl,hx⟩
        have hlk:q.its.lookup 1=some z:=by have:=HD.out.d.o.self;rw[HD.out.d.id] at this;exact this
        rw[hlk]
        exact⟨rfl,hx⟩
       have HG:=hid hgt
       clear hgt
       go_wp2_with fail
       refine(HG.out _ (Ext.alloc w7 _)).mono ?_
       rintro e w8 ⟨rfl,hx⟩
       have HI8:=hid (HI7.out.ext ((Ext.alloc w7 _).trans hx))
       have HE8:=hid (HE7.out.trans ((Ext.alloc w7 _).trans hx))
       have HCX8:=hid (hx.obj ((Ext.alloc w7 _).obj HCX7.out))
       clear hx HI7 HE7 HCX7 HG
       have HZ:Hid (Dy (1+50*k+2*j) (4294967296*(20*k+j)) la pa (j:Int) lane z q):=hid HD.out.d
       have HSTT:=hid (fun W (hW:Ext w8 W)=>dead_stats (HI8.out.ext hW) HD.out.d.xq.wi.wq (HD.out.d.o.dead HST.out))
       have hst:=HST.out
       clear HD HST
       obtain⟨zi,zl,zs,zc,zd,zt,zu,zg,zp,zz⟩:=z
       dsimp only at hst
       subst hst
       go_wp2_with fail
       refine(HSTT.out _ (Ext.alloc w8 _)).mono ?_
       rintro e w9 ⟨⟨a,b,c,d1,d2,rfl⟩,hx⟩
       have HI9:=hid (HI8.out.ext ((Ext.alloc w8 _).trans hx))
       have HE9:=hid (HE8.out.trans ((Ext.alloc w8 _).trans hx))
       have HCX9:=hid (hx.obj ((Ext.alloc w8 _).obj HCX8.out))
       clear hx HI8 HE8 HCX8 HSTT
       have hfd:=stats_dead a b c d1 d2 1 w9
       by_cases hk0:k=0
       · subst hk0
         go_wp2_with fail
         refine(dy_requeue HI9.out HZ.out (by have:=HDE.out;omega) rfl).mono ?_
         rintro e w10 ⟨x10,q10,z10,rfl,i10,d10,s10,c10,b10⟩
         have HI10:=hid i10
         have HE10:Hid (Ext w w10):=hid (Below.trans HE9.out (b10.mono HLBx.out.2))
         have HCX10:Hid (w10.heap[cb]? =some (ccO la pa (j:Int))):=hid ((b10.block cb HLBx.out.1).trans HCX9.out)
         have HD10:Hid (DyR (0+1) 0 (4294967296*(20*(0+1))) la pa (j:Int) lane z10 q10):=hid ⟨d10.mono (by have:=HDE.out;omega) (by have:=HDE.out;omega),by have:=HDE.out;rw[if_neg (by omega),s10],c10⟩
         clear i10 d10 s10 c10 b10 HI9 HE9 HCX9 HZ hfd
         go_wp2
         go_roundw
         case rel=>exact⟨0+1,x10,q10,z10,by decide,by go_num,HI10,hid (by rw[if_neg (by decide)];exact HD10.out),HE10,HCX10⟩
         case measure=>simp[intOf]
       · obtain rfl:k=1:=by have:=HK.out;omega
         have HD10:Hid (Dy (1+50*(1+1)) (4294967296*(20*(1+1))) la pa (j:Int) lane ⟨zi,zl,4,zc,zd,zt,zu,zg,zp,zz⟩ q):=hid (HZ.out.mono (by have:=HDE.out;omega) (by have:=HDE.out;omega))
         clear HZ hk0
         go_wp2
         go_roundw
         case rel=>exact⟨1+1,x7,q,_,by decide,by go_num,HI9,hid (by rw[if_pos (by decide)];exact⟨HD10.out,rfl⟩),HE9,HCX9⟩
         case measure=>simp[intOf]
  · obtain rfl:k=2:=by omega
    have HD0:Hid (Dy (1+50*2) (4294967296*(20*2)) la pa de lane z q∧z.st=4):=hid (by have:=HD.out;rw[if_pos rfl] at this;exact this)
    clear hlt hk HD
    go_wp2_with fail
    refine(dy_purge HI.out HD0.out.1 (by omega) HD0.out.2).mono ?_
    rintro e w7 ⟨x7,q7,rfl,i7,wq7,t7,b7⟩
    have HI7:=hid i7
    have HE7:Hid (Ext w w7):=hid (Below.trans HE.out (b7.mono HLBx.out.2))
    have HST:=hid (dead_stats (d:=0) i7 wq7 (by rw[t7];rfl))
    clear i7 wq7 t7 b7 HI HE HCX HD0
    go_wp2_with fail
    refine HST.out.mono ?_
    rintro e w8 ⟨⟨a,b,c,d1,d2,rfl⟩,hx⟩
    have HE8:=hid (HE7.out.trans hx)
    have hfd:=stats_dead a b c d1 d2 0 w8
    clear hx HST
    go_wp2
    go_returns
    exact⟨rfl,HE8.out⟩
end Go.Proofs.YtcfgafododiioaaGreatDoor
namespace Go.Proofs.YtcfgafododiioaaGreatDoor.indexDies
open Go.ChangeShapes Go.WideShapes Go.ChangeAt Go.RowKit
open Go.ChangeMaps (open_string shut_string)
theorem own:ownKnob Tryz.prog.godebug=none:=by kernel_rfl
theorem kid1:laidOutB Tryz.prog=true:=by kernel_rfl
theorem kid2:mapsRowed Tryz.prog=true:=by kernel_rfl
theorem kid3:((List.range Tryz.prog.types.size).all fun t=>match Tryz.prog.underlying t with|some (.slice e)=>decide (0<Tryz.prog.cellsOf e)|_=>true)=true:=by kernel_rfl
theorem kid4:∀t∈Tryz.f8.params.toList,t<Tryz.prog.types.size:=by decide+kernel
theorem firstIs:Go.Pinned.utf8First=Lib.firstData:=by kernel_rfl
theorem acceptIs:(Rows.laid_unicode_utf8_acceptRanges:DataW Unit)=Lib.acceptData:=by kernel_rfl
theorem table {W:World} (h:laidMetH Tryz.prog Rows.indexDiesRow.laid W):TB W:=by
 have h' : laidMet Tryz.prog [("unicode/utf8.acceptRanges", Lib.acceptData), ("unicode/utf8.first", Lib.firstData)] W := by
  rw[←acceptIs,←firstIs]
  exact h
 exact utf8Tabs_of_reads (ρ:=Tryz.lays230_ren) {Tryz.lays230 with} ⟨by kernel_rfl,by kernel_rfl,by kernel_rfl,by kernel_rfl,by kernel_rfl,by kernel_rfl,by kernel_rfl⟩ (Lib.laidMet.reads h' (.tail _ (.head _))) (Lib.laidMet.reads h' (.head _))
set_option maxRecDepth 100000 in
theorem contract (H:Type) (enc:TypeId×Value→H) (W:World) (base:Nat) (args:Array Value) (ds gs:List (DataW H)) (before:List MemPlace)
 (hval:∀(j:Nat) t v,Tryz.f8.params[j]? =some t→args[j]? =some v→Value.okWide Tryz.prog W .any base t v)
 (hW:DataW.Whole enc Tryz.prog Tryz.f8.params.toList Rows.indexDiesSpec.vars false W args.toList ds gs before) (hL:laidMetH Tryz.prog Rows.indexDiesRow.laid W):
 Calls Tryz.prog 8 args W fun e W'=>∃v,e= .returned v∧Rows.indexDiesSpec.post enc Tryz.prog Tryz.f8 false true false false W args v W':=by
 have hW':=hW
 obtain⟨p,q,hA0,hV,rfl,hfz,hnd⟩:=hW
 have hA:DataW.TrodAll enc Tryz.prog W 0 (fun _=>true) true Tryz.f8.params.toList args.toList ds p:=hA0
 rw[Tryz.params8] at hA hval
 obtain⟨v0,vs0,d0,ds0,p0,q0,hargs,rfl,rfl,h0,r0⟩:=trodAll_cons hA
 obtain⟨v1,vs1,d1,ds1,p1,q1,rfl,rfl,rfl,h1,r1⟩:=trodAll_cons r0
 obtain⟨v2,vs2,d2,ds2,p2,q2,rfl,rfl,rfl,h2,r2⟩:=trodAll_cons r1
 obtain⟨v3,vs3,d3,ds3,p3,q3,rfl,rfl,rfl,h3,r3⟩:=trodAll_cons r2
 obtain⟨rfl,rfl,rfl⟩:=trodAll_nil r3
 obtain rfl:args= #[v0,v1,v2,v3]:=by cases args;simp_all
 obtain⟨rfl,rfl⟩:=trodVars_none hV
 obtain⟨la,pa,de,rfl⟩:=open_conf (hval 0 23 v0 rfl rfl) h0
 obtain⟨a1,rfl,rfl,rfl,w1⟩:=open_int Tryz.underlying3 (hval 1 3 v1 rfl rfl) h1
 obtain⟨a2,rfl,rfl,rfl,w2⟩:=open_int Tryz.underlying36 (hval 2 36 v2 rfl rfl) h2
 obtain⟨u2,rfl⟩:=Go.Tum.u64_of w2
 obtain⟨l3,hl3⟩:=open_flags (hval 3 89 v3 rfl rfl) h3
 refine(indexDies_law la pa de a1 u2 v3 l3 W hl3 (table hL)).mono fun e W' ⟨he,hg⟩=> ?_
 subst he
 exact⟨_,rfl,Go.Tum.law_post kid1 kid2 kid3 kid4 rfl Tryz.underlying4 hW' rfl rfl hg⟩
noncomputable def laidWorld (os:Os):World:=
 let w0:=World.holding Tryz.prog os ⟨#[],#[],[]⟩
 let put (h:Array Obj) (g:Nat) (cs:Array Value):Array Obj:=h.modify g fun
  | .cells _ t frozen=> .cells cs t frozen
  |o=>o
 {w0 with heap:=put (put w0.heap 0 (Lib.firstTab.map fun z=>Value.int .u8 z).toArray) 1 ((List.range 16).flatMap fun i=>[Value.int .u8 (Lib.accLo i),Value.int .u8 (Lib.accHi i)]).toArray}
theorem laid_met (os:Os):laidMet Tryz.prog Rows.indexDiesRow.laid ((laidWorld os).forCall (fun _ _=>0) ⟨#[],#[.agg #[.int .i64 0,.int .i64 0,.int .i64 0],.int .i64 0,.int .u64 0,.slice none 0 0],[]⟩).memory:=
 laidMet_of_run3 10 (by kernel_rfl) (by kernel_rfl) (by kernel_rfl)
theorem reads (os:Os) {H:Type} (enc:TypeId×Value→H):∃places,DataW.whole enc Tryz.prog ((laidWorld os).forCall (fun _ _=>0) ⟨#[],#[.agg #[.int .i64 0,.int .i64 0,.int .i64 0],.int .i64 0,.int .u64 0,.slice none 0 0],[]⟩).memory Tryz.f8.params.toList Rows.indexDiesSpec.vars false #[Value.agg #[.int .i64 0,.int .i64 0,.int .i64 0],.int .i64 0,.int .u64 0,.slice none 0 0].toList 8=some ([.agg [.lit (.int .i64 0),.lit (.int .i64 0),.lit (.int .i64 0)],.lit (.int .i64 0),.lit (.int .u64 0),.nil],[],places):=
 ⟨[],by kernel_rfl⟩
set_option maxRecDepth 100000 in
theorem lifted (os:Os) (started:os.Started) (H:Type) (enc:TypeId×Value→H) (F:Stop.Interp):
 ReturnsInHanded {} Tryz.checked os 8 .any ((OpenSpec.ofChange Rows.indexDiesSpec).preRow enc Tryz.prog Tryz.f8 Rows.indexDiesRow.domain false Rows.indexDiesRow.laid) (((OpenSpec.ofChange Rows.indexDiesSpec).at F).post enc Tryz.prog Tryz.f8 false true false false):=by
 obtain⟨places,hx⟩:=reads os enc
 refine returnsInHanded_of_row (C:=Tryz.checked) (s:=OpenSpec.ofChange Rows.indexDiesSpec) own started (by kernel_rfl) Tryz.func8
  (witness_row_at (enc:=enc) (C:=Tryz.checked) false (laidWorld os) #[.agg #[.int .i64 0,.int .i64 0,.int .i64 0],.int .i64 0,.int .u64 0,.slice none 0 0] rfl (by kernel_rfl) (by kernel_rfl) (by kernel_rfl)
   (OpenSpec.preRow_of_cond 8 hx (by kernel_rfl) (fun k hk=>by cases hk) (by kernel_rfl) (laid_met os))) ?_
 intro W base args ds gs before hval hW _ _ _ hL _ _
 exact contract H enc W base args ds gs before hval hW hL
theorem said:Rows.IndexDiesSaid:=
 OpenClaim.holds_of_cond 8 Tryz.f8 rfl rfl rfl rfl rfl rfl rfl ⟨rfl,rfl,rfl,rfl,rfl⟩ rfl rfl rfl rfl rfl (by kernel_rfl) Tryz.func8 (by kernel_rfl)
  (of_decide_eq_true (by kernel_rfl)) (by unfold Func.isWrapper;first|(rw[if_pos (by decide+kernel)];kernel_rfl)|(rw[if_neg (by decide+kernel)];exact⟨rfl,rfl⟩))
  (fun os started H enc _ F=>by rw[OpenClaim.pre_eq_preRow];exact lifted os started H enc F)
theorem plain (f : FuncId) (fn : Func) (hf : Tryz.pinned.checked.prog.funcNamed "tumbrel/tumbrellaw11.IndexDies" = some f) (hfn : Tryz.pinned.checked.prog.funcs[f]? = some fn) :
 false=Tryz.pinned.checked.prog.looks []∧∀(j:Nat) t,fn.params[j]? =some t→Tryz.pinned.checked.prog.wantsStandIn t=false:=by
 obtain rfl : f = 8 := Option.some.inj ((show Tryz.prog.funcNamed "tumbrel/tumbrellaw11.IndexDies" = some 8 by kernel_rfl).symm.trans hf) |>.symm
 obtain rfl:fn=Tryz.f8:=(Option.some.inj (Tryz.func8.symm.trans hfn)).symm
 refine⟨by kernel_rfl,fun j t ht=> ?_⟩
 rw[Tryz.params8] at ht
 have hm:=Array.mem_of_getElem? ht
 have hall:∀t∈Tryz.f8.params.toList,Tryz.prog.wantsStandIn t=false:=by decide+kernel
 rw[Tryz.params8] at hall
 exact hall t (by simpa using hm)
theorem proved:Rows.IndexDiesCardSaid:=
 Claim7.holds_tied_plain_at .later [] _ _ _ _ said (fun _ h=>by cases h) (by kernel_rfl) (fun _ h=>by cases h) indexDies_row_tie rfl ⟨rfl,rfl⟩ (by kernel_rfl) rfl plain (by kernel_rfl)
end Go.Proofs.YtcfgafododiioaaGreatDoor.indexDies
