/- For every input the law IndexSees returns true and leaves what was there as it was; no condition but the sizes of the row. -/
import Derived.Test.YtcfgafododiioaaGreatDoorC45
import Derived.Test.YtcfgafododiioaaGreatDoorC44
import Derived.Test.YtcfgafododiioaaGreatDoorC33
import Derived.Test.YtcfgafododiioaaGreatDoorC38
import Derived.Laws.Rows
import Derived.Laws.Tables
import Derived.Test.YtcfgafododiioaaGreatDoorCards
import Derived.Test.YtcfgafododiioaaGreatDoorTie
import Derived.WalkKit
import Derived.ProofKit
import Derived.OpenShut
import Derived.Below
import Derived.Deep.DeepHandedRow
import Derived.SizedLaws
import Derived.Lib.LaidU8
import Derived.Deep.DeepLaidRun
import Derived.ShutString
import Derived.Test.YtcfgafododiioaaGreatDoorC1
import Derived.Lib.SmallJoins
set_option linter.unusedSimpArgs false
set_option linter.unusedVariables false
set_option maxRecDepth 100000
namespace Go.Proofs.YtcfgafododiioaaGreatDoor
open Go Go.RowKit Go.Tum Go.ChangeMaps Go.Sort
open Go.ParB (upd Lof)
open Go.ParE (putS slotsR slots Closed)
set_option maxHeartbeats 2000000 in
theorem isame_eq {w:World} {a:An} {u v:Value} (hu:Vec uv w u a.ids) (hv:Vec uv w v a.ids):
 Calls Tryz.prog 18 #[anV a u,anV a v] w fun e w'=>e= .returned (.bool true)∧Ext w w':=by
 obtain⟨E,Id,⟨id,la,st,ct,du,tk,tu,sg,ps,sz⟩,Many,Is,Ids⟩:=a
 obtain⟨W1,hW1⟩:∃W,w.alloc (.cells #[.int .i64 E,vU Id,vU id,.int .i64 la,.int .i64 st,.int .i64 ct,vU du,vU tk,vU tu,vU sg,vU ps,.int .i64 sz,.int .i64 Many,.bool Is,u] 49 (0,0))=W:=⟨_,rfl⟩
 obtain⟨W2,hW2⟩:∃W,W1.alloc (.cells #[.int .i64 E,vU Id,vU id,.int .i64 la,.int .i64 st,.int .i64 ct,vU du,vU tk,vU tu,vU sg,vU ps,.int .i64 sz,.int .i64 Many,.bool Is,v] 49 (0,0))=W:=⟨_,rfl⟩
 have e1:Ext w W1:=by rw[←hW1];exact Ext.alloc _ _
 have e2:Ext W1 W2:=by rw[←hW2];exact Ext.alloc _ _
 have b1:=e2.obj (show W1.heap[w.heap.size]? =some (.cells #[.int .i64 E,vU Id,vU id,.int .i64 la,.int .i64 st,.int .i64 ct,vU du,vU tk,vU tu,vU sg,vU ps,.int .i64 sz,.int .i64 Many,.bool Is,u] 49 (0,0)) by rw[←hW1];exact heap_alloc_new _ _)
 have b2:W2.heap[W1.heap.size]? =some (.cells #[.int .i64 E,vU Id,vU id,.int .i64 la,.int .i64 st,.int .i64 ct,vU du,vU tk,vU tu,vU sg,vU ps,.int .i64 sz,.int .i64 Many,.bool Is,v] 49 (0,0)):=by rw[←hW2];exact heap_alloc_new _ _
 obtain⟨x0,x1,x2,x3,x4,x5,x6,x7,x8,x9,x10,x11,x12,x13,x14,-⟩:=blk15 b1
 obtain⟨y0,y1,y2,y3,y4,y5,y6,y7,y8,y9,y10,y11,y12,y13,y14,-⟩:=blk15 b2
 have HX:=hid (e1.trans e2)
 have HU:=hid (hu.ext (e1.trans e2))
 have HV:=hid (hv.ext (e1.trans e2))
 clear e1 e2 b1 b2 hu hv
 go_enter Tryz.func18,Tryz.ntmps18
 go_wp2_with fail
 clear hW1 hW2 x0 x1 x2 x3 x4 x5 x6 x7 x8 x9 x10 x11 x12 x13 x14 y0 y1 y2 y3 y4 y5 y6 y7 y8 y9 y10 y11 y12 y13 y14
 refine(rsame64_any u v Ids Ids W2 HU.out HV.out).mono ?_
 rintro e w3 ⟨rfl,hx⟩
 have hb:(Ids==Ids)=true:=by simp
 go_wp2
 go_returns
 exact⟨rfl,HX.out.trans hx⟩
end Go.Proofs.YtcfgafododiioaaGreatDoor
set_option maxRecDepth 100000
namespace Go.Proofs.YtcfgafododiioaaGreatDoor
open Go Go.RowKit Go.Tum Go.ChangeMaps Go.Sort
theorem IX.bs {B:Nat} {w:World} {p:Nat} {x:XP} {q:QR} (h:IX B w p x q):B≤w.heap.size:=by
 have:=h.blk_lo p (XP.mem_blk.2 ⟨0,by decide,by simp[XP.comp]⟩)
 omega
structure I2 (B:Nat) (w:World) (p:Nat) (x:XP) (q:QR) (p2:Nat) (y:XP) (r:QR):Prop where
 a:IX B w p x q
 b:IX B w p2 y r
 ap:∀c∈x.blk p,c∉y.blk p2
section
variable {B : Nat} {w w' : World} {p p2 : Nat} {x y : XP} {q r : QR}
theorem I2.ext (h:I2 B w p x q p2 y r) (k:Ext w w'):I2 B w' p x q p2 y r:=⟨h.a.ext k,h.b.ext k,h.ap⟩
theorem I2.symm (h:I2 B w p x q p2 y r):I2 B w p2 y r p x q:=⟨h.b,h.a,fun c hc hm=>h.ap c hm hc⟩
theorem IX.off_fr (h:IX B w p2 y r) {S:List Nat} (f:Fr S w w') (hs:∀c∈S,c∉y.blk p2):IX B w' p2 y r:=
 h.fr f fun i hi a ha hm=>hs a hm (XP.mem_blk.2 ⟨i,hi,ha⟩)
theorem I2.left (h:I2 B w p x q p2 y r) {q':QR} (s:XStp B w p x q' w'):∃x',I2 B w' p x' q' p2 y r∧Fr (x.blk p) w w'∧(∀a∈x'.blk p,a∈x.blk p∨w.heap.size≤a):=by
 obtain⟨x',i,f,n⟩:=s
 refine⟨x',⟨i,h.b.off_fr f h.ap,fun c hc hm=> ?_⟩,f,n⟩
 rcases n c hc with k|k
 · exact h.ap c k hm
 · have:=(h.b.blk_lo c hm).2
   omega
theorem I2.right (h:I2 B w p x q p2 y r) {r':QR} (s:XStp B w p2 y r' w'):∃y',I2 B w' p x q p2 y' r'∧Fr (y.blk p2) w w'∧(∀a∈y'.blk p2,a∈y.blk p2∨w.heap.size≤a):=by
 obtain⟨y',i,f,n⟩:=h.symm.left s
 exact⟨y',i.symm,f,n⟩
theorem I2.made {w1:World} (h:IX B w p x q) (k:IX w.heap.size w1 p2 y r) (e:Ext w w1) (hB:B≤w.heap.size):I2 B w1 p x q p2 y r:=
 ⟨h.ext e,k.lower hB,fun c hc hm=>by have:=(h.blk_lo c hc).2;have:=(k.blk_lo c hm).1;omega⟩
end
def SrX (s:SR) (V:Value) (w:World):Prop:=∃b vi vd vc,V=srV s vi vd vc∧SrO b w s vi vd vc
def RsX (s:SR) (V:Value) (w:World):Prop:=∃b x y z,V=srV s x y z∧RSt b w s x y z
theorem SrX.ext {s:SR} {V:Value} {w w':World} (h:SrX s V w) (k:Ext w w'):SrX s V w':=by
 obtain⟨b,vi,vd,vc,e,h⟩:=h
 exact⟨b,vi,vd,vc,e,h.ext k⟩
theorem RsX.ext {s:SR} {V:Value} {w w':World} (h:RsX s V w) (k:Ext w w'):RsX s V w':=by
 obtain⟨b,x,y,z,e,h⟩:=h
 exact⟨b,x,y,z,e,h.ext k⟩
theorem st_val {B n:Nat} {w:World} {p:Nat} {x:XP} {q:QR} (h:IX B w p x q) (hq:XQ n q) (ht:TB w) {s:SR} (hs:stateQ q=s):
 Calls Tryz.prog 23 #[pv p] w fun e w'=>(∃V,e= .returned V∧SrX s V w')∧Ext w w':=
 (st_any h hq ht hs).mono fun e w' ⟨⟨vi,vd,vc,he,ho⟩,hx⟩=>⟨⟨_,he,_,vi,vd,vc,rfl,ho⟩,hx⟩
theorem lst_val {w:World} {s:SR} {V:Value} (h:SrX s V w) (hs:SmS s):
 Calls Tryz.prog 22 #[V] w fun e w'=>(∃V',e= .returned V'∧RsX s V' w')∧Ext w w':=by
 obtain⟨b,vi,vd,vc,rfl,ho⟩:=h
 exact(lst_any ho hs).mono fun e w' ⟨⟨x,y,z,he,hr⟩,hx⟩=>⟨⟨_,he,_,x,y,z,rfl,hr⟩,hx⟩
theorem rsame_val {w:World} {s:SR} {U V:Value} (h:RsX s U w) (k:RsX s V w) (hs:SmS s):
 Calls Tryz.prog 21 #[U,V] w fun e w'=>e= .returned (.bool true)∧Ext w w':=by
 obtain⟨b,x,y,z,rfl,hr⟩:=h
 obtain⟨b2,x2,y2,z2,rfl,hr2⟩:=k
 exact rsame11_eq hr hr2 (by have:=hs.it;omega)
def FrmX (B n:Nat) (q:QR) (X:Nat) (w:World):Prop:=∃y r,IX B w X y r∧MadeR n q.lanes q.pay q.del (stateQ q) r
theorem FrmX.ext {B n:Nat} {q:QR} {X:Nat} {w w':World} (h:FrmX B n q X w) (k:Ext w w'):FrmX B n q X w':=by
 obtain⟨y,r,a,b⟩:=h
 exact⟨y,r,a.ext k,b⟩
theorem FrmX.low {B B' n:Nat} {q:QR} {X:Nat} {w:World} (h:FrmX B n q X w) (k:B'≤B):FrmX B' n q X w:=by
 obtain⟨y,r,a,b⟩:=h
 exact⟨y,r,a.lower k,b⟩
theorem from_val {n:Nat} {w:World} {q:QR} {V:Value} (hs:XQ n q) (hn:n≤4611686018427387904) (h:SrX (stateQ q) V w) (ht:TB w):
 Calls Tryz.prog 28 #[ccV q.lanes q.pay q.del,V] w fun e w'=>(∃X,e= .returned (.tuple #[pv X,.int .i64 0])∧FrmX w.heap.size n q X w')∧Ext w w':=by
 obtain⟨b,vi,vd,vc,rfl,h⟩:=h
 obtain⟨o1,k1,rfl⟩:=row_shape h.it
 obtain⟨o2,k2,rfl⟩:=row_shape h.dd
 obtain⟨o3,k3,rfl⟩:=row_shape h.cu
 refine(ifrom_any n q.lanes q.pay q.del (Sl.of_owns h.it) (Sl.of_owns h.dd) (Sl.of_owns h.cu) ht (by have:=dead_len hs.wi.wq hs.wi.wd;omega) (state_curs hs.wi.wd) (fun _=>⟨hs.wi.lo.le,hs.wi.lo.tu,hs.wi.lo.de⟩)).mono ?_
 rintro e w' ⟨hf,hx⟩
 rw[state_ok hs hn,hs.wi.wq.right,if_pos (by rfl)] at hf
 obtain⟨X,x,r,rfl,hI,hM⟩:=hf
 exact⟨⟨X,rfl,x,r,hI,hM⟩,hx⟩
end Go.Proofs.YtcfgafododiioaaGreatDoor
namespace Go.Proofs.YtcfgafododiioaaGreatDoor
open Go Go.RowKit Go.Tum Go.ChangeMaps Go.Sort
def Set3 (q r:QR):Prop:=r.lanes=q.lanes∧r.pay=q.pay∧r.del=q.del
theorem Set3.refl (q:QR):Set3 q q:=⟨rfl,rfl,rfl⟩
theorem Set3.trans {a b c:QR} (h:Set3 a b) (k:Set3 b c):Set3 a c:=⟨k.1.trans h.1,k.2.1.trans h.2.1,k.2.2.trans h.2.2⟩
theorem Set3.bec (q:QR) (z:It) (l:L):Set3 q (becQ q z l):=by
 obtain⟨a1,a2,a3,-⟩:=becQ_same q z l
 exact⟨a1,a2,a3⟩
theorem Set3.tickL:∀(k:Nat) (q:QR),Set3 q (Go.Proofs.YtcfgafododiioaaGreatDoor.tickL k q).2
 |0,q=>Set3.refl q
 |k+1,q=>by
  unfold Go.Proofs.YtcfgafododiioaaGreatDoor.tickL
  split
  · exact Set3.refl q
  · exact(Set3.bec q _ _).trans (Set3.tickL k _)
theorem Set3.resL (d:Int):∀(l:List It) (q:QR),Set3 q (Go.Proofs.YtcfgafododiioaaGreatDoor.resL d l q)
 |[],q=>Set3.refl q
 |z::r,q=>by
  unfold Go.Proofs.YtcfgafododiioaaGreatDoor.resL
  exact(Set3.bec q _ _).trans (Set3.resL d r _)
theorem Set3.with (q:QR) (t:UInt64) (f:L→L×Int):Set3 q (withQ q t f).2.2:=by
 unfold withQ
 split
 · exact Set3.refl q
 · dsimp only
   split
   · exact Set3.refl q
   · exact Set3.bec q _ _
theorem Set3.dead (q:QR) (i:UInt64) (s:Int):Set3 q (deadQ q i s).2:=by
 unfold deadQ
 dsimp only
 split
 · exact Set3.refl q
 · exact Set3.bec q _ _
theorem Set3.actB (q:QR) (a:Ai):∀k:Kd,Set3 q (Go.Proofs.YtcfgafododiioaaGreatDoor.actB q a k).2
 | .a0=>by
  rw[actB0]
  show Set3 q (putQ q a.lane a.n a.sg a.ps a.size).2.2
  unfold putQ
  split
  · exact Set3.refl q
  split
  · exact Set3.refl q
  split
  · exact Set3.refl q
  split
  · exact Set3.refl q
  exact Set3.bec q _ _
 | .a1=>by
  rw[actB1]
  show Set3 q (leaseQ q a.lane a.n).2.2
  unfold leaseQ
  split
  · exact Set3.refl q
  split
  · exact Set3.refl q
  dsimp only
  split
  · exact Set3.refl q
  exact Set3.bec {q with leases:=q.leases+1} _ _
 | .a2=>by rw[actB2];exact Set3.with q _ _
 | .a3=>by rw[actB3];exact Set3.with q _ _
 | .a4=>by rw[actB4];exact Set3.with q _ _
 | .a5=>by
  have hk:Set3 q (tickQ q a.n).2.2:=by
   unfold tickQ
   split
   · exact Set3.refl q
   · have:=Set3.tickL 201 {q with now:=q.now+a.n}
     generalize Go.Proofs.YtcfgafododiioaaGreatDoor.tickL 201 {q with now:=q.now+a.n}=T at this⊢
     exact this
  obtain⟨T,hT⟩:∃T,tickQ q a.n=T:=⟨_,rfl⟩
  rw[actB5,hT]
  rw[hT] at hk
  exact hk
 | .a6=>by rw[actB6];exact Set3.dead q _ _
 | .a7=>by rw[actB7];exact Set3.dead q _ _
 | .a8=>by rw[actB8];exact Set3.refl q
 | .a9=>by rw[actB9];exact Set3.resL _ _ q
 | .a10=>by rw[actB10];exact Set3.refl q
 | .a11=>by rw[actB11];exact Set3.refl q
theorem Set3.act (q:QR) (a:Ai):Set3 q (actI q a).2:=Set3.actB q a _
theorem act_tick (q:QR) (t:UInt64) {T:Nat×Int×QR} (hT:tickQ q t=T):actI q ⟨5,0,0,0,t,[],0,0,0⟩=({an0 with many:=(T.1:Int),e:=T.2.1},T.2.2):=by
 show actB q _ (kindI _)=_
 rw[show kindI ⟨5,0,0,0,t,[],0,0,0⟩=Kd.a5 by unfold kindI;simp,actB5]
 dsimp only
 rw[hT]
theorem act_tick2 {N:Nat} {q:QR} (h:XQ N q) (hN:N+300≤5000000000000000000) (t:UInt64) {T:Nat×Int×QR} (hT:tickQ q t=T):XQ (N+300) T.2.2:=by
 have:=h.act hN ⟨5,0,0,0,t,[],0,0,0⟩
 rw[act_tick q t hT] at this
 exact this
end Go.Proofs.YtcfgafododiioaaGreatDoor
namespace Go.Proofs.YtcfgafododiioaaGreatDoor
open Go Go.RowKit Go.Tum Go.ChangeMaps Go.Sort
structure One (la pa de lane:Int) (z:It) (q:QR):Prop where
 wq:WQ q
 la:q.lanes=la
 pa:q.pay=pa
 de:q.del=de
 lk:∀i,look q i=if i=z.id then some z else none
 ln:z.lane=lane
theorem list_one {α:Type} {l:List α} {a:α} (hn:l.Nodup) (h:∀b,b∈l↔b=a):l=[a]:=by
 cases l with
 |nil=>exact absurd ((h a).2 rfl) (by simp)
 |cons b r=>
  have hb:=(h b).1 (by simp)
  subst hb
  cases r with
  |nil=>rfl
  |cons c r=>
   have hc:=(h c).1 (by simp)
   rw[hc] at hn
   simp at hn
theorem list_none {α:Type} {l:List α} (h:∀b,b∉l):l=[]:=by
 cases l with
 |nil=>rfl
 |cons b r=>exact absurd (List.mem_cons_self ..) (h b)
section
variable {la pa de lane : Int} {z : It} {q : QR}
theorem One.self (h:One la pa de lane z q):look q z.id=some z:=by rw[h.lk,if_pos rfl]
theorem One.only (h:One la pa de lane z q) {i:UInt64} {y:It} (hy:look q i=some y):i=z.id∧y=z:=by
 rw[h.lk] at hy
 split at hy
 · rename_i e;exact⟨e,(Option.some.inj hy).symm⟩
 · cases hy
theorem One.its (h:One la pa de lane z q):q.its.map Prod.snd=[z]:=by
 have h1:q.its.map Prod.fst=[z.id]:=list_one h.wq.nd fun b=>by
  constructor
  · intro hb
    obtain⟨y,hy,rfl⟩:=List.mem_map.1 hb
    exact(h.only (h.wq.lkz hy)).1
  · rintro rfl
    exact List.mem_map.2 ⟨_,look_in h.self,rfl⟩
 have h2:q.its.length=1:=by rw[←List.length_map (f:=Prod.fst),h1];rfl
 obtain⟨y,hy⟩:=List.length_eq_one_iff.1 h2
 rw[hy]
 have:=(h.only (h.wq.lkz (z:=y) (by rw[hy];simp))).2
 simp[this]
theorem One.rng (h:One la pa de lane z q):0≤lane∧lane<la∧la≤8:=by
 have:=(h.wq.it _ (look_in h.self)).ln
 have h2:=h.wq.cf
 rw[h.la] at this h2
 dsimp only at this
 rw[h.ln] at this
 omega
theorem One.row (h:One la pa de lane z q) (hs:z.st=1) (n:Nat) (hn:n<8):q.rows n=if n=lane.toNat then[z.id] else[]:=by
 split
 · rename_i e
   refine list_one (h.wq.rowlen hn).2 fun i=> ?_
   rw[h.wq.co.row n hn]
   constructor
   · rintro⟨y,hy,-⟩;exact(h.only hy).1
   · rintro rfl;exact⟨z,h.self,hs,by rw[h.ln,e]⟩
 · rename_i e
   refine list_none fun i hi=> ?_
   obtain⟨y,hy,-,k⟩:=(h.wq.co.row n hn i).1 hi
   rw[(h.only hy).2,h.ln] at k
   exact e k.symm
theorem One.row0 (h:One la pa de lane z q) (hs:z.st≠1) (n:Nat) (hn:n<8):q.rows n=[]:=list_none fun i hi=>by
 obtain⟨y,hy,k,-⟩:=(h.wq.co.row n hn i).1 hi
 rw[(h.only hy).2] at k
 exact hs k
theorem One.get (h:One la pa de lane z q):getI q z.id=z:=by unfold getI;rw[h.self];rfl
theorem One.peekL (h:One la pa de lane z q) (hs:z.st=1):∀l:List Nat,(∀n∈l,n<8)→lane.toNat∈l→Go.Proofs.YtcfgafododiioaaGreatDoor.peekL q lane l=(z,0)
 |[],_,hm=>by simp at hm
 |n::r,hn,hm=>by
  have hr:=h.rng
  unfold Go.Proofs.YtcfgafododiioaaGreatDoor.peekL
  by_cases e:n=lane.toNat
  · rw[if_neg (by omega),h.row hs n (hn n (by simp)),if_pos e]
    dsimp only
    rw[h.get]
  · rw[if_pos ⟨by omega,by omega⟩]
    refine h.peekL hs r (fun m k=>hn m (List.mem_cons_of_mem _ k)) ?_
    rcases List.mem_cons.1 hm with k|k
    · exact absurd k.symm e
    · exact k
theorem One.peekL0 (h:One la pa de lane z q) (hs:z.st≠1):∀l:List Nat,(∀n∈l,n<8)→Go.Proofs.YtcfgafododiioaaGreatDoor.peekL q lane l=(it0,11)
 |[],_=>rfl
 |n::r,hn=>by
  have ih:=h.peekL0 hs r fun m k=>hn m (List.mem_cons_of_mem _ k)
  unfold Go.Proofs.YtcfgafododiioaaGreatDoor.peekL
  split
  · exact ih
  · rw[h.row0 hs n (hn n (by simp))];exact ih
theorem One.peek (h:One la pa de lane z q):peekQ q lane=if z.st=1 then(z,0) else(it0,11):=by
 have hr:=h.rng
 have hb:∀n∈List.range q.lanes.toNat,n<8:=fun n hn=>by rw[List.mem_range,h.la] at hn;omega
 unfold peekQ
 rw[if_neg (by rw[h.la];omega)]
 split
 · rename_i hs
   exact h.peekL hs _ hb (by rw[List.mem_range,h.la];omega)
 · rename_i hs
   exact h.peekL0 hs _ hb
theorem One.bec (h:One la pa de lane z q) {l:L} (hs:l.s=1∨l.s=2∨l.s=3∨l.s=4) (hw:WQ (becQ q z l)):One la pa de lane (becI q z l) (becQ q z l):=by
 obtain⟨a1,a2,a3,-⟩:=becQ_same q z l
 refine⟨hw,a1.trans h.la,a2.trans h.pa,a3.trans h.de,fun i=> ?_,h.ln⟩
 rw[look_bec (by omega)]
 have e5:¬(becI q z l).st=5:=by show¬l.s=5;omega
 unfold entG
 rw[if_neg e5]
 unfold setG delG
 show(if i=z.id then some (becI q z l) else if i=z.id then none else look q i)=if i=z.id then some (becI q z l) else none
 by_cases e:i=z.id
 · rw[if_pos e,if_pos e]
 · rw[if_neg e,if_neg e,if_neg e,h.lk,if_neg e]
theorem toN {n:Int} (h0:0≤n) (h1:n<18446744073709551616):((UInt64.ofNat n.toNat).toNat:Int)=n:=by
 rw[UInt64.toNat_ofNat']
 omega
theorem One.lease (h:One la pa de lane z q) (hs:z.st=1) {span:UInt64} (h0:span≠0) (ho:q.now.toNat+span.toNat<18446744073709551616) (hw:WQ (leaseQ q lane span).2.2):
 ∃y,(leaseQ q lane span).1=y∧(leaseQ q lane span).2.1=0∧One la pa de lane y (leaseQ q lane span).2.2∧y.id=z.id∧y.st=3∧y.ct=z.ct+1∧y.due.toNat=q.now.toNat+span.toNat∧(leaseQ q lane span).2.2.now=q.now:=by
 have hct:=(h.wq.it _ (look_in h.self)).lf
 have hcf:=h.wq.cf
 dsimp only at hct
 have hwr:wrap64 (z.ct+1)=z.ct+1:=by unfold wrap64;omega
 have hn0:¬(span.toNat:Int)=0:=fun e=>h0 (UInt64.toNat_inj.1 (show span.toNat=0 by omega))
 have hl:leaseL z.l q.now.toNat span.toNat (q.leases+1).toNat=(⟨3,z.ct+1,(q.now.toNat:Int)+span.toNat,((q.leases+1).toNat:Int)⟩,0):=by
  unfold leaseL overP
  rw[if_neg (by show¬z.st≠1;omega),if_neg hn0,if_neg (by omega)]
  show(((⟨3,wrap64 (z.ct+1),_,_⟩:L),(0:Int)))=_
  rw[hwr]
 have e:leaseQ q lane span=(becI q z ⟨3,z.ct+1,(q.now.toNat:Int)+span.toNat,((q.leases+1).toNat:Int)⟩,0,becQ {q with leases:=q.leases+1} z ⟨3,z.ct+1,(q.now.toNat:Int)+span.toNat,((q.leases+1).toNat:Int)⟩):=by
  unfold leaseQ
  rw[if_neg h0,h.peek,if_pos hs,if_neg (by simp)]
  dsimp only
  rw[hl]
  dsimp only
  rw[if_neg (by simp)]
 rw[e] at hw⊢
 dsimp only at hw⊢
 have h':∀i,look {q with leases:=q.leases+1} i=if i=z.id then some z else none:=h.lk
 obtain⟨a1,a2,a3,a4,-⟩:=becQ_same {q with leases:=q.leases+1} z ⟨3,z.ct+1,(q.now.toNat:Int)+span.toNat,((q.leases+1).toNat:Int)⟩
 refine⟨_,rfl,rfl,⟨hw,a1.trans h.la,a2.trans h.pa,a3.trans h.de,fun i=> ?_,h.ln⟩,rfl,rfl,rfl,?_,a4⟩
 · rw[look_bec (by show(3:Int)=1∨(3:Int)=2∨(3:Int)=3∨(3:Int)=4∨(3:Int)=5;omega)]
   have e5:¬(becI {q with leases:=q.leases+1} z ⟨3,z.ct+1,(q.now.toNat:Int)+span.toNat,((q.leases+1).toNat:Int)⟩).st=5:=by show¬(3:Int)=5;omega
   unfold entG
   rw[if_neg e5]
   unfold setG delG
   show(if i=z.id then some _ else if i=z.id then none else look q i)=if i=z.id then some _ else none
   by_cases e:i=z.id
   · rw[if_pos e,if_pos e];rfl
   · rw[if_neg e,if_neg e,if_neg e,h.lk,if_neg e]
 · have:=toN (n:=(q.now.toNat:Int)+span.toNat) (by omega) (by omega)
   show(UInt64.ofNat ((q.now.toNat:Int)+span.toNat).toNat).toNat=_
   omega
theorem One.lease0 (h:One la pa de lane z q) (hs:z.st≠1) {span:UInt64} (h0:span≠0):leaseQ q lane span=(it0,11,q):=by
 unfold leaseQ
 rw[if_neg h0,h.peek,if_neg hs,if_pos (by simp)]
theorem end_st (x:L) (de:Int):(endL x de).s=(if de≤x.c then 4 else 1)∧(endL x de).c=x.c:=by
 unfold endL
 split
 · exact⟨rfl,rfl⟩
 · exact⟨rfl,rfl⟩
theorem One.nack (h:One la pa de lane z q) (hs:z.st=3) (hw:WQ (nackQ q z.tok 0).2.2):∃y,(nackQ q z.tok 0).2.1=0∧One la pa de lane y (nackQ q z.tok 0).2.2∧y.id=z.id∧y.st=(if de≤z.ct then 4 else 1)∧y.ct=z.ct∧(nackQ q z.tok 0).2.2.now=q.now:=by
 have hh:q.hld.lookup z.tok=some z.id:=(h.wq.co.hld _ _).2 ⟨z,h.self,hs,rfl⟩
 obtain⟨l,hl⟩:∃l,(if de≤z.ct then endL z.l de else⟨1,z.ct,0,0⟩)=l:=⟨_,rfl⟩
 have hls:l.s=(if de≤z.ct then 4 else 1)∧l.c=z.ct:=by
  rw[←hl]
  split
  · rename_i k
    have:=end_st z.l de
    rw[show z.l.c=z.ct from rfl,if_pos k] at this
    exact this
  · exact⟨rfl,rfl⟩
 have e:nackQ q z.tok 0=(becI q z l,0,becQ q z l):=by
  unfold nackQ withQ
  rw[hh]
  dsimp only
  rw[h.get]
  have hk:nackL z.l z.tok.toNat q.now.toNat (0:UInt64).toNat q.del=(l,0):=by
   unfold nackL
   rw[if_pos ⟨hs,rfl⟩,h.de,←hl]
   show(if de≤z.ct then(endL z.l de,(0:Int)) else waitL z.l q.now.toNat (0:UInt64).toNat)=_
   split
   · rfl
   · unfold waitL
     rw[if_pos (by rfl)];rfl
  rw[hk,if_neg (by simp)]
 rw[e] at hw⊢
 dsimp only at hw⊢
 refine⟨_,rfl,h.bec (by rw[hls.1];split<;>omega) hw,rfl,hls.1,hls.2,(becQ_same q z l).2.2.2.1⟩
theorem One.tick (h:One la pa de lane z q) (hs:z.st=3) {span:UInt64} (hd:z.due.toNat=q.now.toNat+span.toNat) (hb:q.turns.toNat+300<18446744073709551615) (hw:WQ (tickQ q span).2.2):
 ∃y,(tickQ q span).1=1∧(tickQ q span).2.1=0∧One la pa de lane y (tickQ q span).2.2∧y.id=z.id∧y.st=(if de≤z.ct then 4 else 1)∧y.ct=z.ct∧(tickQ q span).2.2.now.toNat=q.now.toNat+span.toNat:=by
 have hdl:=z.due.toNat_lt
 have hno:¬18446744073709551615 - q.now<span:=by
  rw[UInt64.lt_iff_toNat_lt,UInt64.toNat_sub_of_le _ _ (by rw[UInt64.le_iff_toNat_le];have:=q.now.toNat_lt;show _≤18446744073709551615;omega)]
  have:(18446744073709551615:UInt64).toNat=18446744073709551615:=rfl
  omega
 have hnow:(q.now+span).toNat=q.now.toNat+span.toNat:=by rw[UInt64.toNat_add];omega
 have h':One la pa de lane z {q with now:=q.now+span}:=⟨h.wq.clock _,h.la,h.pa,h.de,h.lk,h.ln⟩
 obtain⟨r,hr⟩:∃r:QR,{q with now:=q.now+span}=r:=⟨_,rfl⟩
 have hrn:r.now.toNat=q.now.toNat+span.toNat:=by rw[←hr];exact hnow
 have hrt:r.turns=q.turns:=by rw[←hr]
 have e:tickQ q span=((tickL 201 r).1,0,(tickL 201 r).2):=by unfold tickQ;rw[if_neg hno,hr]
 rw[hr] at h'
 rw[e] at hw⊢
 dsimp only at hw⊢
 clear e
 have hdue:dueI r=[z]:=by
  unfold dueI
  rw[h'.its,List.filter_cons_of_pos,List.filter_nil]
  rw[decide_eq_true_eq,UInt64.le_iff_toNat_le]
  exact⟨.inr hs,by omega⟩
 have hle:leastI (dueI r)=some z:=by rw[hdue];rfl
 obtain⟨l,hl⟩:∃l,passL z.l r.now.toNat r.del=l:=⟨_,rfl⟩
 have hls:l.s=(if de≤z.ct then 4 else 1)∧l.c=z.ct:=by
  rw[←hl]
  unfold passL
  rw[if_neg (by show¬(r.now.toNat:Int)<(z.due.toNat:Int);omega),if_neg (by show¬z.st=2;omega),if_pos (by exact hs),h'.de]
  exact end_st z.l de
 have h1s:l.s=1∨l.s=4:=by rw[hls.1];split<;>omega
 obtain⟨k,hk⟩:∃k,k=200:=⟨_,rfl⟩
 have e1:tickL 201 r=((tickL k (becQ r z l)).1+1,(tickL k (becQ r z l)).2):=by
  rw[show 201=k+1 by omega,tickL,hle]
  dsimp only
  rw[hl]
 have hw2:WQ (becQ r z l):=by
  rw[←hl]
  exact h'.wq.pass h'.self (.inr hs) (by rw[UInt64.le_iff_toNat_le];omega) (by rw[hrt];omega)
 have h2:=h'.bec (l:=l) (by omega) hw2
 have hd2:dueI (becQ r z l)=[]:=by
  unfold dueI
  rw[h2.its,List.filter_cons_of_neg,List.filter_nil]
  rw[decide_eq_true_eq]
  rintro⟨a,-⟩
  have:(becI r z l).st=l.s:=rfl
  omega
 have e2:tickL k (becQ r z l)=(0,becQ r z l):=by
  cases k with
  |zero=>rfl
  |succ k=>rw[tickL,leastI_none.2 hd2]
 rw[e1,e2]
 dsimp only
 exact⟨_,rfl,rfl,h2,rfl,hls.1,hls.2,by rw[(becQ_same r z l).2.2.2.1];exact hrn⟩
theorem One.requeue (h:One la pa de lane z q) (hs:z.st=4) (hw:WQ (deadQ q z.id 1).2):∃y,(deadQ q z.id 1).1=0∧One la pa de lane y (deadQ q z.id 1).2∧y.id=z.id∧y.st=1∧y.ct=0∧(deadQ q z.id 1).2.now=q.now:=by
 have e:deadQ q z.id 1=(0,becQ q z ⟨1,0,0,0⟩):=by
  unfold deadQ
  dsimp only
  rw[h.get]
  have hk:deadL z.l 1=(⟨1,0,0,0⟩,0):=by
   unfold deadL
   exact if_pos hs
  rw[hk,if_neg (by simp)]
 rw[e] at hw⊢
 dsimp only at hw⊢
 exact⟨_,rfl,h.bec (.inl rfl) hw,rfl,rfl,rfl,(becQ_same q z _).2.2.2.1⟩
theorem One.purge (h:One la pa de lane z q) (hs:z.st=4):(deadQ q z.id 5).1=0∧(deadQ q z.id 5).2.its=[]:=by
 have e:deadQ q z.id 5=(0,becQ q z ⟨5,0,0,0⟩):=by
  unfold deadQ
  dsimp only
  rw[h.get]
  have hk:deadL z.l 5=(⟨5,0,0,0⟩,0):=by
   unfold deadL
   exact if_pos hs
  rw[hk,if_neg (by simp)]
 rw[e]
 refine⟨rfl,list_none fun b hb=> ?_⟩
 have h1:look (becQ q z ⟨5,0,0,0⟩) b.1=none:=by
  rw[look_bec (.inr (.inr (.inr (.inr rfl))))]
  unfold entG
  rw[if_pos (by rfl)]
  unfold delG
  split
  · rfl
  · rename_i e;rw[h.lk,if_neg e]
 unfold look at h1
 rw[lku_none] at h1
 exact h1 (List.mem_map.2 ⟨b,hb,rfl⟩)
theorem One.dead (h:One la pa de lane z q) (hs:z.st=4):cntT (q.its.map Prod.snd) 4=1:=by
 rw[h.its]
 simp[cntT,hs]
end
theorem One.put {N:Nat} {la pa de lane:Int} {q:QR} (h:MadeR N la pa de s0R q) (h0:0≤lane) (h1:lane<la) (hw:WQ (putQ q lane 0 0 0 0).2.2):
 ∃y,(putQ q lane 0 0 0 0).1=1∧(putQ q lane 0 0 0 0).2.1=0∧One la pa de lane y (putQ q lane 0 0 0 0).2.2∧y.id=1∧y.st=1∧y.ct=0∧(putQ q lane 0 0 0 0).2.2.now=0:=by
 have hnow:q.now=0:=congrArg SR.now h.st
 have hnext:q.next=1:=congrArg SR.next h.st
 have hits:q.its=[]:=by
  have hi:sortN (q.its.map Prod.snd)=[]:=congrArg SR.items h.st
  have:=(sortN_perm (q.its.map Prod.snd)).length_eq
  rw[hi,List.length_map] at this
  exact List.length_eq_zero_iff.1 this.symm
 have hcf:=h.xq.wi.wq.cf
 have e:putQ q lane 0 0 0 0=(1,0,{becQ q (newI q lane 0 0 0) ⟨1,0,0,0⟩ with next:=q.next+1}):=by
  unfold putQ
  rw[if_neg (by rw[h.la];have:=hcf;omega),if_neg (by rw[hits];simp),if_neg (by rw[hnext];decide),hnow,if_neg (by decide),hnext]
  rfl
 rw[e] at hw⊢
 dsimp only at hw⊢
 obtain⟨a1,a2,a3,a4,-⟩:=becQ_same q (newI q lane 0 0 0) ⟨1,0,0,0⟩
 refine⟨becI q (newI q lane 0 0 0) ⟨1,0,0,0⟩,rfl,rfl,⟨hw,a1.trans h.la,a2.trans h.pa,a3.trans h.de,fun i=> ?_,rfl⟩,hnext,rfl,rfl,a4.trans hnow⟩
 show look (becQ q (newI q lane 0 0 0) ⟨1,0,0,0⟩) i=_
 rw[look_bec (.inl rfl)]
 unfold entG
 rw[if_neg (by show¬(1:Int)=5;omega)]
 unfold setG delG
 show(if i=q.next then some _ else if i=q.next then none else look q i)=if i=q.next then some _ else none
 by_cases e:i=q.next
 · rw[if_pos e,if_pos e]
 · rw[if_neg e,if_neg e,if_neg e]
   unfold look
   rw[hits];rfl
end Go.Proofs.YtcfgafododiioaaGreatDoor
set_option maxRecDepth 100000
namespace Go.Proofs.YtcfgafododiioaaGreatDoor
open Go Go.RowKit Go.Tum Go.ChangeMaps Go.Sort
structure Dy (n T:Nat) (la pa de lane:Int) (z:It) (q:QR):Prop where
 o:One la pa de lane z q
 xq:XQ (300*n) q
 id:z.id=1
 nw:q.now.toNat≤T
theorem Dy.mono {n m T S:Nat} {la pa de lane:Int} {z:It} {q:QR} (h:Dy n T la pa de lane z q) (k:n≤m) (l:T≤S):Dy m S la pa de lane z q:=⟨h.o,h.xq.mono (by omega),h.id,by have:=h.nw;omega⟩
theorem xq_of {N:Nat} {q:QR} {a:Ai} {k:Kd} {r:QR} (h:XQ N q) (hN:N+300≤5000000000000000000) (hk:kindI a=k) (hr:(actB q a k).2=r):XQ (N+300) r:=by
 have:=h.act hN a
 unfold actI at this
 rw[hk,hr] at this
 exact this
section
variable {B n T : Nat} {w : World} {p : Nat} {x : XP} {q : QR} {la pa de lane : Int} {z : It}
theorem dy_put {w:World} (h:IX B w p x q) (hM:MadeR 0 la pa de s0R q) (h0:0≤lane) (h1:lane<la):
 Calls Tryz.prog 31 #[pv p,.int .i64 lane,vU 0,.agg #[vU 0,vU 0,.int .i64 0]] w fun e w'=>e= .returned (.tuple #[vU 1,.int .i64 0])∧∃x' q' z',IX B w' p x' q'∧Dy 1 0 la pa de lane z' q'∧z'.st=1∧z'.ct=0∧Below B w w':=by
 refine(put_any11 lane 0 0 0 0 h h.bs hM.xq.wi.wq).mono ?_
 rintro e w' ⟨rfl,hst⟩
 have hx:=xq_of (a:=⟨0,lane,0,0,0,[],0,0,0⟩) (k:= .a0) hM.xq (by decide) (by unfold kindI;simp) (by rw[actB0])
 dsimp only at hx
 obtain⟨y,e1,e2,o,i1,i2,i3,i4⟩:=One.put hM h0 h1 hx.wi.wq
 obtain⟨x',i',bl,-⟩:=hst.keep h.blo h.bs
 exact⟨by rw[e1,e2],x',_,y,i',⟨o,hx.mono (by omega),i1,by rw[i4];exact Nat.le_refl _⟩,i2,i3,bl⟩
theorem dy_lease (h:IX B w p x q) (hd:Dy n T la pa de lane z q) (hn:n≤1000) (hs:z.st=1) {span:UInt64} (h0:span≠0) (hT:T+span.toNat<18446744073709551616):
 Calls Tryz.prog 33 #[pv p,.int .i64 lane,vU span] w fun e w'=>∃x' q' z',e= .returned (.tuple #[itV z',.int .i64 0])∧IX B w' p x' q'∧Dy (n+1) T la pa de lane z' q'∧z'.st=3∧z'.ct=z.ct+1∧z'.due.toNat=q'.now.toNat+span.toNat∧Below B w w':=by
 refine(lease_any11 lane span h h.bs hd.xq.wi.wq (by have:=hd.xq.wi.lo.le;omega)).mono ?_
 rintro e w' ⟨rfl,hst⟩
 have hx:=xq_of (a:=⟨1,lane,0,0,span,[],0,0,0⟩) (k:= .a1) hd.xq (by omega) (by unfold kindI;simp) (by rw[actB1])
 dsimp only at hx
 obtain⟨y,e1,e2,o,i1,i2,i3,i4,i5⟩:=hd.o.lease hs h0 (by have:=hd.nw;omega) hx.wi.wq
 obtain⟨x',i',bl,-⟩:=hst.keep h.blo h.bs
 exact⟨x',_,y,by rw[e1,e2],i',⟨o,hx.mono (by omega),i1.trans hd.id,by rw[i5];exact hd.nw⟩,i2,i3,by rw[i5];exact i4,bl⟩
theorem dy_lease0 (h:IX B w p x q) (hd:Dy n T la pa de lane z q) (hn:n≤1000) (hs:z.st≠1) {span:UInt64} (h0:span≠0):
 Calls Tryz.prog 33 #[pv p,.int .i64 lane,vU span] w fun e w'=>∃x',e= .returned (.tuple #[itV it0,.int .i64 11])∧IX B w' p x' q∧Below B w w':=by
 refine(lease_any11 lane span h h.bs hd.xq.wi.wq (by have:=hd.xq.wi.lo.le;omega)).mono ?_
 rintro e w' ⟨rfl,hst⟩
 rw[hd.o.lease0 hs h0] at hst⊢
 obtain⟨x',i',bl,-⟩:=hst.keep h.blo h.bs
 exact⟨x',rfl,i',bl⟩
theorem dy_nack (h:IX B w p x q) (hd:Dy n T la pa de lane z q) (hn:n≤1000) (hs:z.st=3):
 Calls Tryz.prog 35 #[pv p,vU z.tok,vU 0] w fun e w'=>∃x' q' z' it,e= .returned (.tuple #[itV it,.int .i64 0])∧IX B w' p x' q'∧Dy (n+1) T la pa de lane z' q'∧z'.st=(if de≤z.ct then 4 else 1)∧z'.ct=z.ct∧Below B w w':=by
 refine(xnck_any z.tok 0 h h.bs hd.xq.wi.wq).mono ?_
 rintro e w' ⟨rfl,hst⟩
 have hx:=xq_of (a:=⟨3,0,0,z.tok,0,[],0,0,0⟩) (k:= .a3) hd.xq (by omega) (by unfold kindI;simp) (by rw[actB3])
 dsimp only at hx
 obtain⟨y,e1,o,i1,i2,i3,i4⟩:=hd.o.nack hs hx.wi.wq
 obtain⟨x',i',bl,-⟩:=hst.keep h.blo h.bs
 exact⟨x',_,y,_,by rw[e1],i',⟨o,hx.mono (by omega),i1.trans hd.id,by rw[i4];exact hd.nw⟩,i2,i3,bl⟩
theorem dy_tick (h:IX B w p x q) (hd:Dy n T la pa de lane z q) (hn:n≤1000) (hs:z.st=3) {span:UInt64} (hdu:z.due.toNat=q.now.toNat+span.toNat):
 Calls Tryz.prog 34 #[pv p,vU span] w fun e w'=>∃x' q' z',e= .returned (.tuple #[.int .i64 1,.int .i64 0])∧IX B w' p x' q'∧Dy (n+1) (T+span.toNat) la pa de lane z' q'∧z'.st=(if de≤z.ct then 4 else 1)∧z'.ct=z.ct∧Below B w w':=by
 obtain⟨R,hR⟩:∃R,tickQ q span=R:=⟨_,rfl⟩
 have hx:=act_tick2 hd.xq (by omega) span hR
 have ht:= @One.tick la pa de lane z q hd.o hs span hdu (by have:=hd.xq.wi.lo.tu;omega)
 have hc:=tick_any11 span h h.bs hd.xq.wi.wq (by have:=hd.xq.wi.lo.tu;omega)
 rw[hR] at ht hc
 refine hc.mono ?_
 rintro e w' ⟨rfl,hst⟩
 obtain⟨y,e1,e2,o,i1,i2,i3,i4⟩:=ht hx.wi.wq
 obtain⟨x',i',bl,-⟩:=hst.keep h.blo h.bs
 exact⟨x',_,y,by rw[e1,e2];rfl,i',⟨o,hx.mono (by omega),i1.trans hd.id,by have:=hd.nw;omega⟩,i2,i3,bl⟩
theorem dy_requeue (h:IX B w p x q) (hd:Dy n T la pa de lane z q) (hn:n≤1000) (hs:z.st=4):
 Calls Tryz.prog 36 #[pv p,vU 1] w fun e w'=>∃x' q' z',e= .returned (.int .i64 0)∧IX B w' p x' q'∧Dy (n+1) T la pa de lane z' q'∧z'.st=1∧z'.ct=0∧Below B w w':=by
 rw[←hd.id]
 refine(xrequeue_any z.id h h.bs hd.xq.wi.wq).mono ?_
 rintro e w' ⟨rfl,hst⟩
 have hx:=xq_of (a:=⟨6,0,0,z.id,0,[],0,0,0⟩) (k:= .a6) hd.xq (by omega) (by unfold kindI;simp) (by rw[actB6])
 dsimp only at hx
 obtain⟨y,e1,o,i1,i2,i3,i4⟩:=hd.o.requeue hs hx.wi.wq
 obtain⟨x',i',bl,-⟩:=hst.keep h.blo h.bs
 exact⟨x',_,y,by rw[e1],i',⟨o,hx.mono (by omega),i1.trans hd.id,by rw[i4];exact hd.nw⟩,i2,i3,bl⟩
theorem dy_purge (h:IX B w p x q) (hd:Dy n T la pa de lane z q) (hn:n≤1000) (hs:z.st=4):
 Calls Tryz.prog 37 #[pv p,vU 1] w fun e w'=>∃x' q',e= .returned (.int .i64 0)∧IX B w' p x' q'∧WQ q'∧q'.its=[]∧Below B w w':=by
 rw[←hd.id]
 refine(xpurge_any z.id h h.bs hd.xq.wi.wq).mono ?_
 rintro e w' ⟨rfl,hst⟩
 have hx:=xq_of (a:=⟨7,0,0,z.id,0,[],0,0,0⟩) (k:= .a7) hd.xq (by omega) (by unfold kindI;simp) (by rw[actB7])
 dsimp only at hx
 obtain⟨e1,e2⟩:=hd.o.purge hs
 obtain⟨x',i',bl,-⟩:=hst.keep h.blo h.bs
 exact⟨x',_,by rw[e1],i',hx.wi.wq,e2,bl⟩
theorem dead_stats (h:IX B w p x q) (hq:WQ q) {d:Nat} (hd:cntT (q.its.map Prod.snd) 4=d):
 Calls Tryz.prog 26 #[pv p] w fun e w'=>(∃a b c d1 d2,e= .returned (.agg #[a,b,c,d1,d2,.int .i64 (d:Int)]))∧Ext w w':=by
 refine(stats_any h hq).mono ?_
 rintro e w' ⟨⟨ro,rc,k,hk,rfl,ho⟩,hx⟩
 exact⟨⟨_,_,_,_,_,by rw[←hd]⟩,hx⟩
end
end Go.Proofs.YtcfgafododiioaaGreatDoor
namespace Go.Proofs.YtcfgafododiioaaGreatDoor
open Go Go.RowKit Go.Tum Go.ChangeMaps Go.Sort Go.Tum.Rn
abbrev nameNew:Nm:=[110,101,119]
def noC (s:SR):SR:={s with curs:=[]}
theorem noC_ok {N:Nat} {q:QR} (h:XQ N q) (hN:N≤4611686018427387904):stateOk q.lanes q.pay q.del (noC (stateQ q))=true:=by
 have h1:=state_ok h hN
 unfold stateOk at h1⊢
 simp only[Bool.and_eq_true] at h1⊢
 refine⟨h1.1,?_⟩
 have h2:=h1.2
 unfold restOk at h2⊢
 have e1:fromD (stateQ q).deaths (stateQ q).dead (stateQ q).curs=some q.dd:=state_from h.wi.wq h.wi.wd
 rw[e1] at h2
 have e2:∃d,fromD (stateQ q).deaths (stateQ q).dead []=some d∧d.rows=q.dd.rows:=by
  unfold fromD at e1⊢
  cases ht:takeR 0 (stateQ q).dead ⟨(stateQ q).deaths,[],[]⟩ with
  |none=>rw[ht] at e1;cases e1
  |some s1=>
   refine⟨s1,rfl,?_⟩
   obtain⟨-,-,a3,-⟩:=takeR_mono _ _ _ _ ht
   rw[a3]
   show[]++sortP q.dd.rows=_
   rw[h.wi.wd.all];rfl
 obtain⟨d,hd,hr⟩:=e2
 show(match fromD (stateQ q).deaths (stateQ q).dead [] with|none=>false|some d=>_)=true
 rw[hd]
 dsimp only at h2⊢
 simp only[Bool.and_eq_true] at h2⊢
 obtain⟨k1,k2,k3⟩:=h2
 refine⟨k1,k2,?_⟩
 unfold deadOk at k3⊢
 rw[hr]
 exact k3
theorem sees_dead {N:Nat} {q:QR} (h:XQ N q) {z:UInt64×UInt64} (hz:z∈(stateQ q).dead):∃y,q.its.lookup z.1=some y∧y.st=4:=by
 have hz:z∈sortP q.dd.rows:=hz
 rw[h.wi.wd.all] at hz
 exact(h.wi.wq.co.ded z.1).1 (by rw[nodup_lku h.wi.wq.dn hz];rfl)
theorem rightNew:rightL (foldL nameNew)=true:=by decide
theorem sees_told {N:Nat} {la pa de:Int} {s:SR} {r:QR} (h:MadeR N la pa de (noC s) r):(nextD r.dd nameNew 200).1=s.dead.map Prod.fst∧(nextD r.dd nameNew 200).2.1=0∧cntT (r.its.map Prod.snd) 4=s.dead.length:=by
 have e1:r.dd.seen=[]:=congrArg SR.curs h.st
 have e2:r.dd.rows=s.dead:=by
  have:sortP r.dd.rows=s.dead:=congrArg SR.dead h.st
  rwa[h.xq.wi.wd.all] at this
 have hlen:r.dd.rows.length≤200:=by
  have:=nodup_le h.xq.wi.wq.dn (m:=r.its.map Prod.fst) fun a ha=>by
   obtain⟨y,hy,e⟩:=List.mem_map.1 ha
   obtain⟨z,hz,-⟩:=(h.xq.wi.wq.co.ded a).1 (by rw[←e,nodup_lku h.xq.wi.wq.dn hy];rfl)
   exact List.mem_map.2 ⟨_,look_in hz,rfl⟩
  rw[List.length_map,List.length_map] at this
  exact Nat.le_trans this h.xq.wi.wq.ln
 have et:tookR r.dd (foldL nameNew) 200=r.dd.rows:=by
  unfold tookR
  rw[e1,List.filter_eq_self.2 (fun z hz=>by
   have:=(h.xq.wi.wd.rl z hz).2
   exact decide_eq_true (show(([]:List (Nm×UInt64)).lookup (foldL nameNew)).getD 0<z.2 from this))]
  exact List.take_of_length_le hlen
 obtain⟨X,en⟩:∃X,nextD r.dd nameNew 200=(s.dead.map Prod.fst,0,X):=⟨_,by
  unfold nextD
  rw[rightNew,if_neg (by decide),e1,if_neg (by simp),←e1,et,e2]⟩
 rw[en]
 refine⟨rfl,rfl,?_⟩
 have h3:=state_rest h.xq
 unfold restOk at h3
 rw[state_from h.xq.wi.wq h.xq.wi.wd] at h3
 dsimp only at h3
 simp only[Bool.and_eq_true] at h3
 obtain⟨-,-,h3⟩:=h3
 unfold deadOk at h3
 simp only[Bool.and_eq_true,decide_eq_true_eq] at h3
 have h4:=h3.2
 have hp:=(sortN_perm (r.its.map Prod.snd)).filter fun z=>decide (z.st=4)
 have h5:(deadsOf (stateQ r).items).length=cntT (r.its.map Prod.snd) 4:=hp.length_eq
 rw[←h5,h4,h.st]
 rfl
end Go.Proofs.YtcfgafododiioaaGreatDoor
set_option maxRecDepth 100000
namespace Go.Proofs.YtcfgafododiioaaGreatDoor
open Go Go.RowKit Go.Tum Go.ChangeMaps Go.Sort
open Go.ParB (upd Lof)
open Go.ParE (putS slotsR slots Closed)
theorem from_noC {n b:Nat} {w:World} {q:QR} {s:SR} {ga gb gc:Option Addr} {gac gbc gcc:Nat} (hs:XQ n q) (hq:stateQ q=s) (hn:n≤4611686018427387904)
 (h:SrO b w s (.slice ga s.items.length gac) (.slice gb s.dead.length gbc) (.slice gc s.curs.length gcc)) (co:Option Addr) (ht:TB w):
 Calls Tryz.prog 28 #[ccV q.lanes q.pay q.del,.agg #[vU s.now,vU s.next,vU s.leases,vU s.turns,vU s.deaths,.slice ga s.items.length gac,.slice gb s.dead.length gbc,.slice co 0 0]] w fun e w'=>
  (∃X y r,e= .returned (.tuple #[pv X,.int .i64 0])∧IX w.heap.size w' X y r∧MadeR n q.lanes q.pay q.del (noC s) r)∧Ext w w':=by
 have hc:Sl w 2 (.slice co 0 0) 0 []:=⟨rfl,co,0,rfl,Nat.le_refl _,by simp[maxLen],fun _=>rfl,fun a ha j u hu=>by simp at hu⟩
 refine(ifrom_any (s:=noC s) n q.lanes q.pay q.del (Sl.of_owns h.it) (Sl.of_owns h.dd) hc ht (by have:=dead_len hs.wi.wq hs.wi.wd;rw[hq] at this;show s.dead.length≤_;omega) (fun z hz=>by cases hz) (fun _=>by rw[←hq];exact⟨hs.wi.lo.le,hs.wi.lo.tu,hs.wi.lo.de⟩)).mono ?_
 rintro e w' ⟨hf,hx⟩
 have hok:=noC_ok hs hn
 rw[hq] at hok
 rw[hok,hs.wi.wq.right,if_pos (by rfl)] at hf
 obtain⟨X,x,r,rfl,hI,hM⟩:=hf
 exact⟨⟨X,x,r,rfl,hI,hM⟩,hx⟩
theorem seen_xq {N:Nat} {r:QR} (h:XQ N r) (hN:N+300≤5000000000000000000):XQ (N+300) {r with dd:=(nextD r.dd nameNew 200).2.2}:=xq_of (a:=⟨8,0,200,0,0,nameNew,0,0,0⟩) (k:= .a8) h hN (by unfold kindI;simp) (by rw[actB8])
theorem stats_dead2 (a b c d1 d2:Value) (n:Int) (w:World):(Instr.field 69 (.agg #[a,b,c,d1,d2,.int .i64 n]) 5).run Tryz.prog w= .ok (.int .i64 n) w:=by kernel_rfl
theorem newIs:(Value.string {data:= #[110,101,119]}:Value)=vN nameNew:=by rfl
set_option maxHeartbeats 2000000 in
theorem indexSees_law (la pa de:Int) (v:Value) (m:List Ai) (w:World) (hA:ActsI w v m) (ht:TB w):
 Calls Tryz.prog 9 #[ccV la pa de,v] w fun e w'=>e= .returned (.bool true)∧Ext w w':=by
 have HA:=hid hA
 have HT:=hid ht
 obtain⟨hrow,hokk⟩:=hA
 obtain⟨ao,cap,rfl,hle,hm,hnn,hcell⟩:=hrow.open
 have HNN:=hid hnn
 have HC:=hid hcell
 obtain⟨W1,hW1⟩:∃W,w.alloc (ccO la pa de)=W:=⟨_,rfl⟩
 have HE1:Hid (Ext w W1):=hid (by rw[←hW1];exact Ext.alloc _ _)
 have HB1:Hid (W1.heap[w.heap.size]? =some (ccO la pa de)):=hid (by rw[←hW1];exact heap_alloc_new _ _)
 have HLB:Hid (w.heap.size<W1.heap.size):=hid (by rw[←hW1];simp)
 clear hrow hokk hcell hnn ht
 go_enter Tryz.func9,Tryz.ntmps9
 go_wp2_with fail
 clear hW1
 obtain⟨cb,hcb⟩:∃c,w.heap.size=c:=⟨_,rfl⟩
 have HCB:Hid (w.heap.size=cb):=hid hcb
 rw[hcb] at HB1
 try rw[hcb]
 clear hcb
 refine(awake11_any W1 (TBx HT.out HE1.out)).mono ?_
 rintro e w4 ⟨rfl,hx⟩
 have HX4:Hid (Ext W1 w4):=hid hx
 have HE4:=hid (HE1.out.trans hx)
 clear hx
 obtain⟨x0,x1,x2,-⟩:=lk3 (HX4.out.obj HB1.out)
 go_wp2_with fail
 clear x0 x1 x2
 refine(inew_any la pa de (TBx HT.out HE4.out)).mono ?_
 rintro e w5 ⟨hn,hx⟩
 have HE5:=hid (HE4.out.trans hx)
 have HCX5:Hid (w5.heap[cb]? =some (ccO la pa de)):=hid (hx.obj (HX4.out.obj HB1.out))
 clear hx
 obtain⟨rc,hrc⟩:∃b,rightC la pa de=b:=⟨_,rfl⟩
 rw[hrc] at hn
 clear hrc
 cases rc
 case false=>
  rw[if_neg (by simp)] at hn
  subst hn
  go_wp2
  go_returns
  exact⟨rfl,HE5.out⟩
 rw[if_pos rfl] at hn
 obtain⟨p,x,q,rfl,hI,hM⟩:=hn
 obtain⟨B,hB⟩:∃B,W1.heap.size=B:=⟨_,rfl⟩
 have hI0:=hI.lower HX4.out.size
 rw[hB] at hI0 HLB
 have HLBx:Hid (cb<B):=hid (by rw[←HCB.out];exact HLB.out)
 have HI5:Hid (IX B w5 p x q):=hid hI0
 have HQ5:Hid (XQ (300*0) q∧(q.lanes=la∧q.pay=pa∧q.del=de)):=hid ⟨hM.xq,hM.la,hM.pa,hM.de⟩
 clear hI hM hI0 hB HX4 HE4 HE1 HB1
 go_wp2_with fail
 refine(ilarge_any _ m w5 (HA.out.ext HE5.out)).mono ?_
 rintro e w6 ⟨⟨r,rfl,hr⟩,hx⟩
 have HE6:=hid (HE5.out.trans hx)
 have HI6:=hid (HI5.out.ext hx)
 have HCX6:=hid (hx.obj HCX5.out)
 clear hx HI5 HE5 HCX5
 cases r
 case true=>
  clear hr
  go_wp2
  go_returns
  exact⟨rfl,HE6.out⟩
 have HS:=hid (hr rfl)
 clear hr
 go_wp2
 go_loopw [34] (fun i wr=>∃(k:Nat) (x:XP) (q:QR),k≤m.length∧i= .int .i64 (k:Int)∧Hid (IX B wr p x q)∧Hid (XQ (300*k) q∧(q.lanes=la∧q.pay=pa∧q.del=de))∧Hid (Ext w wr)∧Hid (wr.heap[cb]? =some (ccO la pa de))) (fun i _=>m.length - (intOf i).toNat)
 case atStart=>exact⟨0,x,q,Nat.zero_le _,rfl,HI6,HQ5,HE6,HCX6⟩
 case round=>
  clear HI6 HQ5 HE6 HCX6 x q
  obtain⟨k,x,q,hk,rfl,HI,HQ,HE,HCX⟩:=hrel
  by_cases hlt:k<m.length
  · obtain⟨a0,rfl⟩:=HNN.out (by omega)
    have c0:=cell_first (HE.out.cell (HC.out a0 rfl k hlt 0 _ rfl))
    have c1:=cell_next (HE.out.cell (HC.out a0 rfl k hlt 1 _ rfl)) (by decide)
    have c2:=cell_next (HE.out.cell (HC.out a0 rfl k hlt 2 _ rfl)) (by decide)
    have c3:=cell_next (HE.out.cell (HC.out a0 rfl k hlt 3 _ rfl)) (by decide)
    have c4:=cell_next (HE.out.cell (HC.out a0 rfl k hlt 4 _ rfl)) (by decide)
    have c5:=cell_next (HE.out.cell (HC.out a0 rfl k hlt 5 _ rfl)) (by decide)
    have c6:=cell_next (HE.out.cell (HC.out a0 rfl k hlt 6 _ rfl)) (by decide)
    have c7:=cell_next (HE.out.cell (HC.out a0 rfl k hlt 7 _ rfl)) (by decide)
    have c8:=cell_next (HE.out.cell (HC.out a0 rfl k hlt 8 _ rfl)) (by decide)
    have HOK:=hid (HA.out.2 m[k] (List.getElem_mem hlt))
    have HSN:=hid (HS.out.2 m[k] (List.getElem_mem hlt))
    have HLM:=hid HS.out.1
    obtain⟨aq,haq⟩:∃z,m[k]=z:=⟨_,rfl⟩
    rw[haq] at c0 c1 c2 c3 c4 c5 c6 c7 c8 HOK HSN
    clear haq
    obtain⟨dn,lane,many,aid,an,name,asg,aps,asz⟩:=aq
    dsimp only at c0 c1 c2 c3 c4 c5 c6 c7 c8
    have hi1:decide ((k:Int)<m.length)=true:=by simp;omega
    have HKM:=hid hlt
    obtain⟨w5,hw5⟩:∃W,wr.alloc (.cells #[.int .i64 dn,.int .i64 lane,.int .i64 many,vU aid,vU an,vN name,vU asg,vU aps,.int .i64 asz] 40 (0,0))=W:=⟨_,rfl⟩
    have e5:Ext wr w5:=by rw[←hw5];exact Ext.alloc _ _
    have HB5:Hid (w5.heap[wr.heap.size]? =some (.cells #[.int .i64 dn,.int .i64 lane,.int .i64 many,vU aid,vU an,vN name,vU asg,vU aps,.int .i64 asz] 40 (0,0))):=hid (by rw[←hw5];exact heap_alloc_new _ _)
    have HI5:=hid (HI.out.ext e5)
    have HE5:=hid (HE.out.trans e5)
    have HLO5:Hid (cb<B):=hid (by rw[←HCB.out];exact HLB.out)
    have HCX5:=hid (e5.obj HCX.out)
    clear e5 hlt hk HI HE HCX
    obtain⟨d0,d1,d2,d3,d4,d5,d6,d7,d8,-⟩:=blk9 HB5.out
    go_wp2_with fail
    clear hw5 c0 c1 c2 c3 c4 c5 c6 c7 c8 hi1 d0 d1 d2 d3 d4 d5 d6 d7 d8
    obtain⟨R,hR⟩:∃R,actI q ⟨dn,lane,many,aid,an,name,asg,aps,asz⟩=R:=⟨_,rfl⟩
    have hcall:=do_any11 ⟨dn,lane,many,aid,an,name,asg,aps,asz⟩ HI5.out HI5.out.bs HQ.out.1.wi (by have:=HKM.out;have:=HLM.out;omega) (TBx HT.out HE5.out) (Nat.le_trans HSN.out (by decide)) HOK.out.mn
    have hq9:=HQ.out.1.act (by have:=HKM.out;have:=HLM.out;omega) ⟨dn,lane,many,aid,an,name,asg,aps,asz⟩
    have hs9:=Set3.act q ⟨dn,lane,many,aid,an,name,asg,aps,asz⟩
    rw[hR] at hcall hq9 hs9
    clear hR
    obtain⟨A1,q9⟩:=R
    dsimp only at hq9 hs9
    have HQ9:Hid (XQ (300*k+300) q9∧(q9.lanes=la∧q9.pay=pa∧q9.del=de)):=hid ⟨hq9,hs9.1.trans HQ.out.2.1,hs9.2.1.trans HQ.out.2.2.1,hs9.2.2.trans HQ.out.2.2.2⟩
    clear hq9 hs9 HQ
    refine hcall.mono ?_
    clear hcall
    rintro e w9 ⟨⟨ro,rcap,rfl,hown⟩,⟨x9,i9,f9,n9⟩⟩
    have HI9:=hid i9
    have HE9:Hid (Ext w w9):=hid (Below.trans HE5.out (f9.below (fun a ha=>by have:=HI5.out.blo a ha;have:=HLB.out;omega) HE5.out.size))
    have HCX9:=hid ((f9.block cb (Array.getElem?_eq_some_iff.1 HCX5.out).1 (fun hm=>by have:=HI5.out.blo _ hm;have:=HLO5.out;omega)).trans HCX5.out)
    clear hown i9 f9 n9 HI5 HE5 HB5 HLO5 HCX5
    go_wp2
    go_roundw
    case rel=>exact⟨k+1,x9,_,HKM.out,by go_num,HI9,hid ⟨HQ9.out.1.mono (by omega),HQ9.out.2⟩,HE9,HCX9⟩
    case measure=>simp[intOf];have:=HKM.out;omega
  · have hki:decide (k<m.length)=false:=by simp;omega
    have HKL:Hid (300*k≤78000):=hid (by have:=HS.out.1;omega)
    clear hk hlt
    obtain⟨s,hs⟩:∃s,stateQ q=s:=⟨_,rfl⟩
    have HSQ:=hid hs
    have HSM:Hid (SmS s):=hid (by rw[←hs];exact sms_of HQ.out.1)
    have HDD:Hid (∀z∈s.dead,∃y,q.its.lookup z.1=some y∧y.st=4):=hid (by rw[←hs];exact fun z hz=>sees_dead HQ.out.1 hz)
    clear hs
    go_wp2_with fail
    clear hki
    refine(st_any HI.out HQ.out.1 (TBx HT.out HE.out) HSQ.out).mono ?_
    rintro e w6 ⟨⟨vi,vd,vc,rfl,ho⟩,hx⟩
    obtain⟨ga,gac,rfl⟩:=row_shape ho.it
    obtain⟨gb,gbc,rfl⟩:=row_shape ho.dd
    obtain⟨gc,gcc,rfl⟩:=row_shape ho.cu
    obtain⟨w7,hw7⟩:∃W,w6.alloc (.cells (srC s (Value.slice ga s.items.length gac) (Value.slice gb s.dead.length gbc) (Value.slice gc s.curs.length gcc)) 63 (0,0))=W:=⟨_,rfl⟩
    have e7:Ext w6 w7:=by rw[←hw7];exact Ext.alloc _ _
    have HB7:Hid (w7.heap[w6.heap.size]? =some (.cells (srC s (Value.slice ga s.items.length gac) (Value.slice gb s.dead.length gbc) (Value.slice gc s.curs.length gcc)) 63 (0,0))):=hid (by rw[←hw7];exact heap_alloc_new _ _)
    have HO7:Hid (SrO wr.heap.size w7 s (Value.slice ga s.items.length gac) (Value.slice gb s.dead.length gbc) (Value.slice gc s.curs.length gcc)):=hid (ho.ext e7)
    have HI7:=hid (HI.out.ext (hx.trans e7))
    have HE7:=hid (HE.out.trans (hx.trans e7))
    have HCX7:=hid ((hx.trans e7).obj HCX.out)
    obtain⟨d0,d1,d2,d3,d4,d5,d6,d7,-⟩:=blk8 HB7.out
    clear ho hx e7 HI HE HCX
    go_wp2
    clear hw7 d0 d1 d2 d3 d4 d5 d6 d7
    obtain⟨sb,hsb⟩:∃b,w6.heap.size=b:=⟨_,rfl⟩
    rw[hsb] at HB7
    try rw[hsb]
    clear hsb
    go_loopw [10,47] (fun v i wr=>∃(k:Nat) (o:Option Addr) (c:Nat),k≤s.dead.length∧i= .int .i64 (k:Int)∧v= .slice o k c∧Hid (Ext w7 wr)∧Hid (wr.ownsRow w7.heap.size 36 1 (.slice o k c) k (((s.dead.take k).map Prod.fst).map vU))) (fun v i _=>s.dead.length - (intOf i).toNat)
    case atStart=>exact⟨0,none,0,Nat.zero_le _,rfl,rfl,hid (Ext.refl _),hid (World.ownsRow_nil _ _ _ _)⟩
    case round=>
     obtain⟨j,o,c,hj,rfl,rfl,HX,HO⟩:=hrel
     by_cases hlt:j<s.dead.length
     · have hi1:decide ((j:Int)<(s.dead.length:Int))=true:=by simp;omega
       obtain⟨a,rfl⟩:∃a,gb=some a:=by
        cases gb with
        |none=>
         obtain⟨h1,-,h3,-⟩:=Sl.cells (Sl.of_owns HO7.out.dd)
         have:=h3 rfl
         omega
        |some a=>exact⟨a,rfl⟩
       obtain⟨z,hz⟩:∃z,s.dead[j]=z:=⟨_,rfl⟩
       have hz2:s.dead[j]? =some z:=by rw[List.getElem?_eq_getElem hlt,hz]
       obtain⟨r0,r1⟩:=row2 (f1:=fun z:UInt64×UInt64=>vU z.1) (f2:=fun z=>vU z.2) (Sl.of_owns (HX.out.owns HO7.out.dd)) hz2
       have htk:=take_ids hlt
       rw[hz] at htk
       obtain⟨y,hy1,hy2⟩:=HDD.out z (by rw[←hz];exact List.getElem_mem hlt)
       obtain⟨z1,z2⟩:=z
       dsimp only at hy1 htk
       have HTK:=hid htk
       have HJ:=hid hlt
       obtain⟨w3,hw3⟩:∃W,wr.alloc (.cells #[vU z1,vU z2] 96 (0,0))=W:=⟨_,rfl⟩
       have e3:Ext wr w3:=by rw[←hw3];exact Ext.alloc _ _
       have HB3:Hid (w3.heap[wr.heap.size]? =some (.cells #[vU z1,vU z2] 96 (0,0))):=hid (by rw[←hw3];exact heap_alloc_new _ _)
       have HX3:=hid (HX.out.trans e3)
       have HO3:=hid (e3.owns HO.out)
       have HGET:Hid (Calls Tryz.prog 30 #[pv p,vU z1] w3 fun e w'=>e= .returned (.tuple #[itV y,.bool true])∧Ext w3 w'):=hid (by
        refine(get_any z1 (HI7.out.ext HX3.out)).mono ?_
        rintro e w' ⟨rfl,hx⟩
        rw[hy1]
        exact⟨rfl,hx⟩)
       obtain⟨d0,d1,-⟩:=lk2 HB3.out
       obtain⟨yi,yl,ys,yc,yd,yt,yu,yg,yp,yz⟩:=y
       dsimp only at hy2
       subst hy2
       clear hz hz2 htk hlt hj e3 hy1 HX HO
       go_wp2_with fail
       clear hw3 d0 d1 r0 r1 hi1
       obtain⟨rb,hrb⟩:∃b,wr.heap.size=b:=⟨_,rfl⟩
       rw[hrb] at HB3
       try rw[hrb]
       clear hrb
       refine HGET.out.mono ?_
       rintro e w4 ⟨rfl,hx⟩
       have HX4:=hid (HX3.out.trans hx)
       have HO4:=hid (hx.owns HO3.out)
       have d0:=fun o=>(Ext.alloc w4 o).cell (lk2 (hx.obj HB3.out)).1
       have hsl:=id_one (w4.alloc (itO ⟨yi,yl,4,yc,yd,yt,yu,yg,yp,yz⟩)) 36 z1
       rw[World.size_alloc] at hsl
       have HSL1:=hid hsl
       have hn5:j+1≤100000:=by have h1:=HJ.out;have h2:=HSM.out.dd;omega
       clear hx hsl HX3 HO3 HB3 HGET
       go_wp2_with (at_builtin;refine wpList_append_slN rfl (.tmp 66) (.tmp 69) 47 rfl w7.heap.size 36 Tryz.underlying47 infoU64 rfl (by decide) rfl ((Ext.alloc _ _).owns ((Ext.alloc _ _).owns HO4.out)) rfl HSL1.out (by intro y hy;simp at hy;rcases hy with rfl;rfl) (j+1) rfl (by simp[maxLen];omega) (by omega) (by have:=HX4.out.size;simp;omega) ?_;intro ao3 cap3 w9 hO3 hg3 hb3;have HO9:=hid hO3;have HX9:Hid (Ext w7 w9):=hid (Below.trans (HX4.out.trans ((Ext.alloc _ _).trans (Ext.alloc _ _))) hb3);clear hO3 hg3 hb3)
       go_roundw
       case rel=>exact⟨j+1,ao3,cap3,HJ.out,by go_num,rfl,HX9,hid (by rw[HTK.out];exact HO9.out)⟩
       case measure=>simp[intOf];have:=HJ.out;omega
     · obtain rfl:j=s.dead.length:=by omega
       have hki:decide (s.dead.length<s.dead.length)=false:=by simp
       have HO9:Hid (wr.ownsRow w7.heap.size 36 1 (.slice o s.dead.length c) s.dead.length ((s.dead.map Prod.fst).map vU)):=hid (by have:=HO.out;rw[List.take_length] at this;exact this)
       have HI9:=hid (HI7.out.ext HX.out)
       have HE9:=hid (HE7.out.trans HX.out)
       have HV9:Hid (Vec uv wr (.slice o s.dead.length c) (s.dead.map Prod.fst)):=hid (by
        have:=Sl.of_owns HO9.out
        show Sl _ 1 _ (s.dead.map Prod.fst).length _
        rw[List.length_map]
        exact this)
       have HF:Hid (∀co W,Ext wr W→Calls Tryz.prog 28 #[ccV la pa de,.agg #[vU s.now,vU s.next,vU s.leases,vU s.turns,vU s.deaths,.slice ga s.items.length gac,.slice gb s.dead.length gbc,.slice co 0 0]] W fun e w'=>(∃X y r,e= .returned (.tuple #[pv X,.int .i64 0])∧IX W.heap.size w' X y r∧MadeR (300*k) la pa de (noC s) r)∧Ext W w'):=hid (fun co W hW=>by
        have:=from_noC HQ.out.1 HSQ.out (by have:=HKL.out;omega) (HO7.out.ext (HX.out.trans hW)) co (TBx HT.out (HE9.out.trans hW))
        rw[HQ.out.2.1,HQ.out.2.2.1,HQ.out.2.2.2] at this
        exact this)
       obtain⟨d0,d1,d2,d3,d4,d5,d6,d7,-⟩:=blk8 (HX.out.obj HB7.out)
       obtain⟨x0,x1,x2,-⟩:=lk3 (HX.out.obj HCX7.out)
       have HDL:=hid HSM.out.dd
       clear hj hlt HO HO9 HX
       go_wp2_with fail
       clear hki x0 x1 x2 d0 d1 d2 d3 d4 d5 d6 d7
       refine(HF.out _ _ (Ext.alloc wr _)).mono ?_
       rintro e w8 ⟨⟨X,y,r,rfl,hI,hM⟩,hx⟩
       have HE8:=hid (HE9.out.trans ((Ext.alloc wr _).trans hx))
       have HVR:=HV9
       obtain⟨t1,t2,t3⟩:=sees_told hM
       have HXR:Hid (Ext wr w8):=hid ((Ext.alloc wr _).trans hx)
       have HI8:Hid (IX wr.heap.size w8 X y r):=hid (hI.lower (Ext.alloc wr _).size)
       have hse:=seen_any nameNew 200 (by decide) (by decide) HI8.out HI8.out.bs hM.xq.wi.wd (TBx HT.out HE8.out) (by decide)
       have hq8:=seen_xq hM.xq (by have:=HKL.out;omega)
       rw[t1,t2,←newIs] at hse
       obtain⟨R9,hR9⟩:∃R,{r with dd:=(nextD r.dd nameNew 200).2.2}=R:=⟨_,rfl⟩
       have hits:R9.its=r.its:=by rw[←hR9]
       rw[hR9] at hse hq8
       rw[←hits] at t3
       have HSE:=hid hse
       have HQ8:=hid hq8
       have HT3:=hid t3
       clear hse hq8 t1 t2 t3 hR9 hits hI hM hx HV9 HF
       go_wp2_with fail
       refine HSE.out.mono ?_
       rintro e w9 ⟨⟨u,rfl,hu⟩,⟨y9,i9,f9,n9⟩⟩
       have HI9':=hid i9
       have hbl:Below wr.heap.size w8 w9:=f9.below (fun a ha=>HI8.out.blo a ha) HI8.out.bs
       have HE10:Hid (Ext w w9):=hid (Below.trans HE8.out (hbl.mono HE9.out.size))
       have HU9:Hid (Vec uv w9 u (s.dead.map Prod.fst)):=hid (Sl.of_owns hu)
       have HV9:Hid (Vec uv w9 (.slice o s.dead.length c) (s.dead.map Prod.fst)):=hid (HVR.out.ext (Below.trans HXR.out hbl))
       clear hu i9 f9 n9 hbl HSE HI8 HXR HE8
       go_wp2_with fail
       refine(rsame64_any u (.slice o s.dead.length c) (s.dead.map Prod.fst) (s.dead.map Prod.fst) w9 HU9.out HV9.out).mono ?_
       rintro e w10 ⟨rfl,hx⟩
       have HE11:=hid (HE10.out.trans hx)
       have hst:=dead_stats (HI9'.out.ext hx) HQ8.out.wi.wq HT3.out
       have hb:((s.dead.map Prod.fst)==(s.dead.map Prod.fst))=true:=by simp
       have HST:=hid hst
       clear hst hx HE10 HU9 HV9 HI9'
       go_wp2_with fail
       clear hb
       refine HST.out.mono ?_
       rintro e w11 ⟨⟨z1,z2,z3,z4,z5,rfl⟩,hx⟩
       have HE12:=hid (HE11.out.trans hx)
       have hfd:=stats_dead2 z1 z2 z3 z4 z5 (s.dead.length:Int) w11
       clear hx HST HE11
       go_wp2
       go_returns
       exact⟨rfl,HE12.out⟩
end Go.Proofs.YtcfgafododiioaaGreatDoor
namespace Go.Proofs.YtcfgafododiioaaGreatDoor.indexSees
open Go.ChangeShapes Go.WideShapes Go.ChangeAt Go.RowKit
open Go.ChangeMaps (open_string shut_string)
theorem own:ownKnob Tryz.prog.godebug=none:=by kernel_rfl
theorem kid1:laidOutB Tryz.prog=true:=by kernel_rfl
theorem kid2:mapsRowed Tryz.prog=true:=by kernel_rfl
theorem kid3:((List.range Tryz.prog.types.size).all fun t=>match Tryz.prog.underlying t with|some (.slice e)=>decide (0<Tryz.prog.cellsOf e)|_=>true)=true:=by kernel_rfl
theorem kid4:∀t∈Tryz.f9.params.toList,t<Tryz.prog.types.size:=by decide+kernel
theorem firstIs:Go.Pinned.utf8First=Lib.firstData:=by kernel_rfl
theorem acceptIs:(Rows.laid_unicode_utf8_acceptRanges:DataW Unit)=Lib.acceptData:=by kernel_rfl
theorem table {W:World} (h:laidMetH Tryz.prog Rows.indexSeesRow.laid W):TB W:=by
 have h' : laidMet Tryz.prog [("unicode/utf8.acceptRanges", Lib.acceptData), ("unicode/utf8.first", Lib.firstData)] W := by
  rw[←acceptIs,←firstIs]
  exact h
 exact utf8Tabs_of_reads (ρ:=Tryz.lays230_ren) {Tryz.lays230 with} ⟨by kernel_rfl,by kernel_rfl,by kernel_rfl,by kernel_rfl,by kernel_rfl,by kernel_rfl,by kernel_rfl⟩ (Lib.laidMet.reads h' (.tail _ (.head _))) (Lib.laidMet.reads h' (.head _))
set_option maxRecDepth 100000 in
theorem contract (H:Type) (enc:TypeId×Value→H) (W:World) (base:Nat) (args:Array Value) (ds gs:List (DataW H)) (before:List MemPlace)
 (hval:∀(j:Nat) t v,Tryz.f9.params[j]? =some t→args[j]? =some v→Value.okWide Tryz.prog W .any base t v)
 (hW:DataW.Whole enc Tryz.prog Tryz.f9.params.toList Rows.indexSeesSpec.vars false W args.toList ds gs before) (hL:laidMetH Tryz.prog Rows.indexSeesRow.laid W):
 Calls Tryz.prog 9 args W fun e W'=>∃v,e= .returned v∧Rows.indexSeesSpec.post enc Tryz.prog Tryz.f9 false true false false W args v W':=by
 have hW':=hW
 obtain⟨p,q,hA0,hV,rfl,hfz,hnd⟩:=hW
 have hA:DataW.TrodAll enc Tryz.prog W 0 (fun _=>true) true Tryz.f9.params.toList args.toList ds p:=hA0
 rw[Tryz.params9] at hA hval
 obtain⟨v0,vs0,d0,ds0,p0,q0,hargs,rfl,rfl,h0,r0⟩:=trodAll_cons hA
 obtain⟨v1,vs1,d1,ds1,p1,q1,rfl,rfl,rfl,h1,r1⟩:=trodAll_cons r0
 obtain⟨rfl,rfl,rfl⟩:=trodAll_nil r1
 obtain rfl:args= #[v0,v1]:=by cases args;simp_all
 obtain⟨rfl,rfl⟩:=trodVars_none hV
 obtain⟨la,pa,de,rfl⟩:=open_conf (hval 0 23 v0 rfl rfl) h0
 obtain⟨m1,hm1⟩:=open_actsI (hval 1 24 v1 rfl rfl) h1
 refine(indexSees_law la pa de v1 m1 W hm1 (table hL)).mono fun e W' ⟨he,hg⟩=> ?_
 subst he
 exact⟨_,rfl,Go.Tum.law_post kid1 kid2 kid3 kid4 rfl Tryz.underlying4 hW' rfl rfl hg⟩
noncomputable def laidWorld (os:Os):World:=
 let w0:=World.holding Tryz.prog os ⟨#[],#[],[]⟩
 let put (h:Array Obj) (g:Nat) (cs:Array Value):Array Obj:=h.modify g fun
  | .cells _ t frozen=> .cells cs t frozen
  |o=>o
 {w0 with heap:=put (put w0.heap 0 (Lib.firstTab.map fun z=>Value.int .u8 z).toArray) 1 ((List.range 16).flatMap fun i=>[Value.int .u8 (Lib.accLo i),Value.int .u8 (Lib.accHi i)]).toArray}
theorem laid_met (os:Os):laidMet Tryz.prog Rows.indexSeesRow.laid ((laidWorld os).forCall (fun _ _=>0) ⟨#[],#[.agg #[.int .i64 0,.int .i64 0,.int .i64 0],.slice none 0 0],[]⟩).memory:=
 laidMet_of_run3 10 (by kernel_rfl) (by kernel_rfl) (by kernel_rfl)
theorem reads (os:Os) {H:Type} (enc:TypeId×Value→H):∃places,DataW.whole enc Tryz.prog ((laidWorld os).forCall (fun _ _=>0) ⟨#[],#[.agg #[.int .i64 0,.int .i64 0,.int .i64 0],.slice none 0 0],[]⟩).memory Tryz.f9.params.toList Rows.indexSeesSpec.vars false #[Value.agg #[.int .i64 0,.int .i64 0,.int .i64 0],.slice none 0 0].toList 8=some ([.agg [.lit (.int .i64 0),.lit (.int .i64 0),.lit (.int .i64 0)],.nil],[],places):=
 ⟨[],by kernel_rfl⟩
set_option maxRecDepth 100000 in
theorem lifted (os:Os) (started:os.Started) (H:Type) (enc:TypeId×Value→H) (F:Stop.Interp):
 ReturnsInHanded {} Tryz.checked os 9 .any ((OpenSpec.ofChange Rows.indexSeesSpec).preRow enc Tryz.prog Tryz.f9 Rows.indexSeesRow.domain false Rows.indexSeesRow.laid) (((OpenSpec.ofChange Rows.indexSeesSpec).at F).post enc Tryz.prog Tryz.f9 false true false false):=by
 obtain⟨places,hx⟩:=reads os enc
 refine returnsInHanded_of_row (C:=Tryz.checked) (s:=OpenSpec.ofChange Rows.indexSeesSpec) own started (by kernel_rfl) Tryz.func9
  (witness_row_at (enc:=enc) (C:=Tryz.checked) false (laidWorld os) #[.agg #[.int .i64 0,.int .i64 0,.int .i64 0],.slice none 0 0] rfl (by kernel_rfl) (by kernel_rfl) (by kernel_rfl)
   (OpenSpec.preRow_of_cond 8 hx (by kernel_rfl) (fun k hk=>by cases hk) (by kernel_rfl) (laid_met os))) ?_
 intro W base args ds gs before hval hW _ _ _ hL _ _
 exact contract H enc W base args ds gs before hval hW hL
theorem said:Rows.IndexSeesSaid:=
 OpenClaim.holds_of_cond 9 Tryz.f9 rfl rfl rfl rfl rfl rfl rfl ⟨rfl,rfl,rfl,rfl,rfl⟩ rfl rfl rfl rfl rfl (by kernel_rfl) Tryz.func9 (by kernel_rfl)
  (of_decide_eq_true (by kernel_rfl)) (by unfold Func.isWrapper;first|(rw[if_pos (by decide+kernel)];kernel_rfl)|(rw[if_neg (by decide+kernel)];exact⟨rfl,rfl⟩))
  (fun os started H enc _ F=>by rw[OpenClaim.pre_eq_preRow];exact lifted os started H enc F)
theorem plain (f : FuncId) (fn : Func) (hf : Tryz.pinned.checked.prog.funcNamed "tumbrel/tumbrellaw11.IndexSees" = some f) (hfn : Tryz.pinned.checked.prog.funcs[f]? = some fn) :
 false=Tryz.pinned.checked.prog.looks []∧∀(j:Nat) t,fn.params[j]? =some t→Tryz.pinned.checked.prog.wantsStandIn t=false:=by
 obtain rfl : f = 9 := Option.some.inj ((show Tryz.prog.funcNamed "tumbrel/tumbrellaw11.IndexSees" = some 9 by kernel_rfl).symm.trans hf) |>.symm
 obtain rfl:fn=Tryz.f9:=(Option.some.inj (Tryz.func9.symm.trans hfn)).symm
 refine⟨by kernel_rfl,fun j t ht=> ?_⟩
 rw[Tryz.params9] at ht
 have hm:=Array.mem_of_getElem? ht
 have hall:∀t∈Tryz.f9.params.toList,Tryz.prog.wantsStandIn t=false:=by decide+kernel
 rw[Tryz.params9] at hall
 exact hall t (by simpa using hm)
theorem proved:Rows.IndexSeesCardSaid:=
 Claim7.holds_tied_plain_at .later [] _ _ _ _ said (fun _ h=>by cases h) (by kernel_rfl) (fun _ h=>by cases h) indexSees_row_tie rfl ⟨rfl,rfl⟩ (by kernel_rfl) rfl plain (by kernel_rfl)
end Go.Proofs.YtcfgafododiioaaGreatDoor.indexSees
