/- For every input the law IndexRow returns true and leaves what was there as it was; no condition but the sizes of the row. -/
import Derived.Test.YtcfgafododiioaaGreatDoorC45
import Derived.Test.YtcfgafododiioaaGreatDoorC44
import Derived.Test.YtcfgafododiioaaGreatDoorC33
import Derived.Test.YtcfgafododiioaaGreatDoorC38
import Derived.Test.YtcfgafododiioaaGreatDoorC37
import Derived.Maps.AppendAt
import Derived.Laws.Rows
import Derived.Laws.Tables
import Derived.Test.YtcfgafododiioaaGreatDoorCards
import Derived.Test.YtcfgafododiioaaGreatDoorTie
import Derived.WalkKit
import Derived.ProofKit
import Derived.OpenShut
import Derived.Below
import Derived.Deep.DeepHandedRow
import Derived.SizedLaws
import Derived.Lib.LaidU8
import Derived.Deep.DeepLaidRun
import Derived.ShutString
import Derived.Test.YtcfgafododiioaaGreatDoorC1
import Derived.Lib.SmallJoins
set_option linter.unusedSimpArgs false
set_option linter.unusedVariables false
set_option maxRecDepth 100000
namespace Go.Proofs.YtcfgafododiioaaGreatDoor
open Go Go.RowKit Go.Tum Go.ChangeMaps Go.Sort
open Go.ParB (upd Lof)
open Go.ParE (putS slotsR slots Closed)
set_option maxHeartbeats 2000000 in
theorem isame_eq {w:World} {a:An} {u v:Value} (hu:Vec uv w u a.ids) (hv:Vec uv w v a.ids):
 Calls Tryz.prog 18 #[anV a u,anV a v] w fun e w'=>e= .returned (.bool true)∧Ext w w':=by
 obtain⟨E,Id,⟨id,la,st,ct,du,tk,tu,sg,ps,sz⟩,Many,Is,Ids⟩:=a
 obtain⟨W1,hW1⟩:∃W,w.alloc (.cells #[.int .i64 E,vU Id,vU id,.int .i64 la,.int .i64 st,.int .i64 ct,vU du,vU tk,vU tu,vU sg,vU ps,.int .i64 sz,.int .i64 Many,.bool Is,u] 49 (0,0))=W:=⟨_,rfl⟩
 obtain⟨W2,hW2⟩:∃W,W1.alloc (.cells #[.int .i64 E,vU Id,vU id,.int .i64 la,.int .i64 st,.int .i64 ct,vU du,vU tk,vU tu,vU sg,vU ps,.int .i64 sz,.int .i64 Many,.bool Is,v] 49 (0,0))=W:=⟨_,rfl⟩
 have e1:Ext w W1:=by rw[←hW1];exact Ext.alloc _ _
 have e2:Ext W1 W2:=by rw[←hW2];exact Ext.alloc _ _
 have b1:=e2.obj (show W1.heap[w.heap.size]? =some (.cells #[.int .i64 E,vU Id,vU id,.int .i64 la,.int .i64 st,.int .i64 ct,vU du,vU tk,vU tu,vU sg,vU ps,.int .i64 sz,.int .i64 Many,.bool Is,u] 49 (0,0)) by rw[←hW1];exact heap_alloc_new _ _)
 have b2:W2.heap[W1.heap.size]? =some (.cells #[.int .i64 E,vU Id,vU id,.int .i64 la,.int .i64 st,.int .i64 ct,vU du,vU tk,vU tu,vU sg,vU ps,.int .i64 sz,.int .i64 Many,.bool Is,v] 49 (0,0)):=by rw[←hW2];exact heap_alloc_new _ _
 obtain⟨x0,x1,x2,x3,x4,x5,x6,x7,x8,x9,x10,x11,x12,x13,x14,-⟩:=blk15 b1
 obtain⟨y0,y1,y2,y3,y4,y5,y6,y7,y8,y9,y10,y11,y12,y13,y14,-⟩:=blk15 b2
 have HX:=hid (e1.trans e2)
 have HU:=hid (hu.ext (e1.trans e2))
 have HV:=hid (hv.ext (e1.trans e2))
 clear e1 e2 b1 b2 hu hv
 go_enter Tryz.func18,Tryz.ntmps18
 go_wp2_with fail
 clear hW1 hW2 x0 x1 x2 x3 x4 x5 x6 x7 x8 x9 x10 x11 x12 x13 x14 y0 y1 y2 y3 y4 y5 y6 y7 y8 y9 y10 y11 y12 y13 y14
 refine(rsame64_any u v Ids Ids W2 HU.out HV.out).mono ?_
 rintro e w3 ⟨rfl,hx⟩
 have hb:(Ids==Ids)=true:=by simp
 go_wp2
 go_returns
 exact⟨rfl,HX.out.trans hx⟩
end Go.Proofs.YtcfgafododiioaaGreatDoor
set_option maxRecDepth 100000
namespace Go.Proofs.YtcfgafododiioaaGreatDoor
open Go Go.RowKit Go.Tum Go.ChangeMaps Go.Sort
theorem IX.bs {B:Nat} {w:World} {p:Nat} {x:XP} {q:QR} (h:IX B w p x q):B≤w.heap.size:=by
 have:=h.blk_lo p (XP.mem_blk.2 ⟨0,by decide,by simp[XP.comp]⟩)
 omega
structure I2 (B:Nat) (w:World) (p:Nat) (x:XP) (q:QR) (p2:Nat) (y:XP) (r:QR):Prop where
 a:IX B w p x q
 b:IX B w p2 y r
 ap:∀c∈x.blk p,c∉y.blk p2
section
variable {B : Nat} {w w' : World} {p p2 : Nat} {x y : XP} {q r : QR}
theorem I2.ext (h:I2 B w p x q p2 y r) (k:Ext w w'):I2 B w' p x q p2 y r:=⟨h.a.ext k,h.b.ext k,h.ap⟩
theorem I2.symm (h:I2 B w p x q p2 y r):I2 B w p2 y r p x q:=⟨h.b,h.a,fun c hc hm=>h.ap c hm hc⟩
theorem IX.off_fr (h:IX B w p2 y r) {S:List Nat} (f:Fr S w w') (hs:∀c∈S,c∉y.blk p2):IX B w' p2 y r:=
 h.fr f fun i hi a ha hm=>hs a hm (XP.mem_blk.2 ⟨i,hi,ha⟩)
theorem I2.left (h:I2 B w p x q p2 y r) {q':QR} (s:XStp B w p x q' w'):∃x',I2 B w' p x' q' p2 y r∧Fr (x.blk p) w w'∧(∀a∈x'.blk p,a∈x.blk p∨w.heap.size≤a):=by
 obtain⟨x',i,f,n⟩:=s
 refine⟨x',⟨i,h.b.off_fr f h.ap,fun c hc hm=> ?_⟩,f,n⟩
 rcases n c hc with k|k
 · exact h.ap c k hm
 · have:=(h.b.blk_lo c hm).2
   omega
theorem I2.right (h:I2 B w p x q p2 y r) {r':QR} (s:XStp B w p2 y r' w'):∃y',I2 B w' p x q p2 y' r'∧Fr (y.blk p2) w w'∧(∀a∈y'.blk p2,a∈y.blk p2∨w.heap.size≤a):=by
 obtain⟨y',i,f,n⟩:=h.symm.left s
 exact⟨y',i.symm,f,n⟩
theorem I2.made {w1:World} (h:IX B w p x q) (k:IX w.heap.size w1 p2 y r) (e:Ext w w1) (hB:B≤w.heap.size):I2 B w1 p x q p2 y r:=
 ⟨h.ext e,k.lower hB,fun c hc hm=>by have:=(h.blk_lo c hc).2;have:=(k.blk_lo c hm).1;omega⟩
end
def SrX (s:SR) (V:Value) (w:World):Prop:=∃b vi vd vc,V=srV s vi vd vc∧SrO b w s vi vd vc
def RsX (s:SR) (V:Value) (w:World):Prop:=∃b x y z,V=srV s x y z∧RSt b w s x y z
theorem SrX.ext {s:SR} {V:Value} {w w':World} (h:SrX s V w) (k:Ext w w'):SrX s V w':=by
 obtain⟨b,vi,vd,vc,e,h⟩:=h
 exact⟨b,vi,vd,vc,e,h.ext k⟩
theorem RsX.ext {s:SR} {V:Value} {w w':World} (h:RsX s V w) (k:Ext w w'):RsX s V w':=by
 obtain⟨b,x,y,z,e,h⟩:=h
 exact⟨b,x,y,z,e,h.ext k⟩
theorem st_val {B n:Nat} {w:World} {p:Nat} {x:XP} {q:QR} (h:IX B w p x q) (hq:XQ n q) (ht:TB w) {s:SR} (hs:stateQ q=s):
 Calls Tryz.prog 23 #[pv p] w fun e w'=>(∃V,e= .returned V∧SrX s V w')∧Ext w w':=
 (st_any h hq ht hs).mono fun e w' ⟨⟨vi,vd,vc,he,ho⟩,hx⟩=>⟨⟨_,he,_,vi,vd,vc,rfl,ho⟩,hx⟩
theorem lst_val {w:World} {s:SR} {V:Value} (h:SrX s V w) (hs:SmS s):
 Calls Tryz.prog 22 #[V] w fun e w'=>(∃V',e= .returned V'∧RsX s V' w')∧Ext w w':=by
 obtain⟨b,vi,vd,vc,rfl,ho⟩:=h
 exact(lst_any ho hs).mono fun e w' ⟨⟨x,y,z,he,hr⟩,hx⟩=>⟨⟨_,he,_,x,y,z,rfl,hr⟩,hx⟩
theorem rsame_val {w:World} {s:SR} {U V:Value} (h:RsX s U w) (k:RsX s V w) (hs:SmS s):
 Calls Tryz.prog 21 #[U,V] w fun e w'=>e= .returned (.bool true)∧Ext w w':=by
 obtain⟨b,x,y,z,rfl,hr⟩:=h
 obtain⟨b2,x2,y2,z2,rfl,hr2⟩:=k
 exact rsame11_eq hr hr2 (by have:=hs.it;omega)
def FrmX (B n:Nat) (q:QR) (X:Nat) (w:World):Prop:=∃y r,IX B w X y r∧MadeR n q.lanes q.pay q.del (stateQ q) r
theorem FrmX.ext {B n:Nat} {q:QR} {X:Nat} {w w':World} (h:FrmX B n q X w) (k:Ext w w'):FrmX B n q X w':=by
 obtain⟨y,r,a,b⟩:=h
 exact⟨y,r,a.ext k,b⟩
theorem FrmX.low {B B' n:Nat} {q:QR} {X:Nat} {w:World} (h:FrmX B n q X w) (k:B'≤B):FrmX B' n q X w:=by
 obtain⟨y,r,a,b⟩:=h
 exact⟨y,r,a.lower k,b⟩
theorem from_val {n:Nat} {w:World} {q:QR} {V:Value} (hs:XQ n q) (hn:n≤4611686018427387904) (h:SrX (stateQ q) V w) (ht:TB w):
 Calls Tryz.prog 28 #[ccV q.lanes q.pay q.del,V] w fun e w'=>(∃X,e= .returned (.tuple #[pv X,.int .i64 0])∧FrmX w.heap.size n q X w')∧Ext w w':=by
 obtain⟨b,vi,vd,vc,rfl,h⟩:=h
 obtain⟨o1,k1,rfl⟩:=row_shape h.it
 obtain⟨o2,k2,rfl⟩:=row_shape h.dd
 obtain⟨o3,k3,rfl⟩:=row_shape h.cu
 refine(ifrom_any n q.lanes q.pay q.del (Sl.of_owns h.it) (Sl.of_owns h.dd) (Sl.of_owns h.cu) ht (by have:=dead_len hs.wi.wq hs.wi.wd;omega) (state_curs hs.wi.wd) (fun _=>⟨hs.wi.lo.le,hs.wi.lo.tu,hs.wi.lo.de⟩)).mono ?_
 rintro e w' ⟨hf,hx⟩
 rw[state_ok hs hn,hs.wi.wq.right,if_pos (by rfl)] at hf
 obtain⟨X,x,r,rfl,hI,hM⟩:=hf
 exact⟨⟨X,rfl,x,r,hI,hM⟩,hx⟩
end Go.Proofs.YtcfgafododiioaaGreatDoor
namespace Go.Proofs.YtcfgafododiioaaGreatDoor
open Go Go.RowKit Go.Tum Go.ChangeMaps Go.Sort
def Set3 (q r:QR):Prop:=r.lanes=q.lanes∧r.pay=q.pay∧r.del=q.del
theorem Set3.refl (q:QR):Set3 q q:=⟨rfl,rfl,rfl⟩
theorem Set3.trans {a b c:QR} (h:Set3 a b) (k:Set3 b c):Set3 a c:=⟨k.1.trans h.1,k.2.1.trans h.2.1,k.2.2.trans h.2.2⟩
theorem Set3.bec (q:QR) (z:It) (l:L):Set3 q (becQ q z l):=by
 obtain⟨a1,a2,a3,-⟩:=becQ_same q z l
 exact⟨a1,a2,a3⟩
theorem Set3.tickL:∀(k:Nat) (q:QR),Set3 q (Go.Proofs.YtcfgafododiioaaGreatDoor.tickL k q).2
 |0,q=>Set3.refl q
 |k+1,q=>by
  unfold Go.Proofs.YtcfgafododiioaaGreatDoor.tickL
  split
  · exact Set3.refl q
  · exact(Set3.bec q _ _).trans (Set3.tickL k _)
theorem Set3.resL (d:Int):∀(l:List It) (q:QR),Set3 q (Go.Proofs.YtcfgafododiioaaGreatDoor.resL d l q)
 |[],q=>Set3.refl q
 |z::r,q=>by
  unfold Go.Proofs.YtcfgafododiioaaGreatDoor.resL
  exact(Set3.bec q _ _).trans (Set3.resL d r _)
theorem Set3.with (q:QR) (t:UInt64) (f:L→L×Int):Set3 q (withQ q t f).2.2:=by
 unfold withQ
 split
 · exact Set3.refl q
 · dsimp only
   split
   · exact Set3.refl q
   · exact Set3.bec q _ _
theorem Set3.dead (q:QR) (i:UInt64) (s:Int):Set3 q (deadQ q i s).2:=by
 unfold deadQ
 dsimp only
 split
 · exact Set3.refl q
 · exact Set3.bec q _ _
theorem Set3.actB (q:QR) (a:Ai):∀k:Kd,Set3 q (Go.Proofs.YtcfgafododiioaaGreatDoor.actB q a k).2
 | .a0=>by
  rw[actB0]
  show Set3 q (putQ q a.lane a.n a.sg a.ps a.size).2.2
  unfold putQ
  split
  · exact Set3.refl q
  split
  · exact Set3.refl q
  split
  · exact Set3.refl q
  split
  · exact Set3.refl q
  exact Set3.bec q _ _
 | .a1=>by
  rw[actB1]
  show Set3 q (leaseQ q a.lane a.n).2.2
  unfold leaseQ
  split
  · exact Set3.refl q
  split
  · exact Set3.refl q
  dsimp only
  split
  · exact Set3.refl q
  exact Set3.bec {q with leases:=q.leases+1} _ _
 | .a2=>by rw[actB2];exact Set3.with q _ _
 | .a3=>by rw[actB3];exact Set3.with q _ _
 | .a4=>by rw[actB4];exact Set3.with q _ _
 | .a5=>by
  have hk:Set3 q (tickQ q a.n).2.2:=by
   unfold tickQ
   split
   · exact Set3.refl q
   · have:=Set3.tickL 201 {q with now:=q.now+a.n}
     generalize Go.Proofs.YtcfgafododiioaaGreatDoor.tickL 201 {q with now:=q.now+a.n}=T at this⊢
     exact this
  obtain⟨T,hT⟩:∃T,tickQ q a.n=T:=⟨_,rfl⟩
  rw[actB5,hT]
  rw[hT] at hk
  exact hk
 | .a6=>by rw[actB6];exact Set3.dead q _ _
 | .a7=>by rw[actB7];exact Set3.dead q _ _
 | .a8=>by rw[actB8];exact Set3.refl q
 | .a9=>by rw[actB9];exact Set3.resL _ _ q
 | .a10=>by rw[actB10];exact Set3.refl q
 | .a11=>by rw[actB11];exact Set3.refl q
theorem Set3.act (q:QR) (a:Ai):Set3 q (actI q a).2:=Set3.actB q a _
theorem act_tick (q:QR) (t:UInt64) {T:Nat×Int×QR} (hT:tickQ q t=T):actI q ⟨5,0,0,0,t,[],0,0,0⟩=({an0 with many:=(T.1:Int),e:=T.2.1},T.2.2):=by
 show actB q _ (kindI _)=_
 rw[show kindI ⟨5,0,0,0,t,[],0,0,0⟩=Kd.a5 by unfold kindI;simp,actB5]
 dsimp only
 rw[hT]
theorem act_tick2 {N:Nat} {q:QR} (h:XQ N q) (hN:N+300≤5000000000000000000) (t:UInt64) {T:Nat×Int×QR} (hT:tickQ q t=T):XQ (N+300) T.2.2:=by
 have:=h.act hN ⟨5,0,0,0,t,[],0,0,0⟩
 rw[act_tick q t hT] at this
 exact this
end Go.Proofs.YtcfgafododiioaaGreatDoor
namespace Go.Proofs.YtcfgafododiioaaGreatDoor
open Go Go.RowKit Go.Tum Go.ChangeMaps Go.Sort
structure One (la pa de lane:Int) (z:It) (q:QR):Prop where
 wq:WQ q
 la:q.lanes=la
 pa:q.pay=pa
 de:q.del=de
 lk:∀i,look q i=if i=z.id then some z else none
 ln:z.lane=lane
theorem list_one {α:Type} {l:List α} {a:α} (hn:l.Nodup) (h:∀b,b∈l↔b=a):l=[a]:=by
 cases l with
 |nil=>exact absurd ((h a).2 rfl) (by simp)
 |cons b r=>
  have hb:=(h b).1 (by simp)
  subst hb
  cases r with
  |nil=>rfl
  |cons c r=>
   have hc:=(h c).1 (by simp)
   rw[hc] at hn
   simp at hn
theorem list_none {α:Type} {l:List α} (h:∀b,b∉l):l=[]:=by
 cases l with
 |nil=>rfl
 |cons b r=>exact absurd (List.mem_cons_self ..) (h b)
section
variable {la pa de lane : Int} {z : It} {q : QR}
theorem One.self (h:One la pa de lane z q):look q z.id=some z:=by rw[h.lk,if_pos rfl]
theorem One.only (h:One la pa de lane z q) {i:UInt64} {y:It} (hy:look q i=some y):i=z.id∧y=z:=by
 rw[h.lk] at hy
 split at hy
 · rename_i e;exact⟨e,(Option.some.inj hy).symm⟩
 · cases hy
theorem One.its (h:One la pa de lane z q):q.its.map Prod.snd=[z]:=by
 have h1:q.its.map Prod.fst=[z.id]:=list_one h.wq.nd fun b=>by
  constructor
  · intro hb
    obtain⟨y,hy,rfl⟩:=List.mem_map.1 hb
    exact(h.only (h.wq.lkz hy)).1
  · rintro rfl
    exact List.mem_map.2 ⟨_,look_in h.self,rfl⟩
 have h2:q.its.length=1:=by rw[←List.length_map (f:=Prod.fst),h1];rfl
 obtain⟨y,hy⟩:=List.length_eq_one_iff.1 h2
 rw[hy]
 have:=(h.only (h.wq.lkz (z:=y) (by rw[hy];simp))).2
 simp[this]
theorem One.rng (h:One la pa de lane z q):0≤lane∧lane<la∧la≤8:=by
 have:=(h.wq.it _ (look_in h.self)).ln
 have h2:=h.wq.cf
 rw[h.la] at this h2
 dsimp only at this
 rw[h.ln] at this
 omega
theorem One.row (h:One la pa de lane z q) (hs:z.st=1) (n:Nat) (hn:n<8):q.rows n=if n=lane.toNat then[z.id] else[]:=by
 split
 · rename_i e
   refine list_one (h.wq.rowlen hn).2 fun i=> ?_
   rw[h.wq.co.row n hn]
   constructor
   · rintro⟨y,hy,-⟩;exact(h.only hy).1
   · rintro rfl;exact⟨z,h.self,hs,by rw[h.ln,e]⟩
 · rename_i e
   refine list_none fun i hi=> ?_
   obtain⟨y,hy,-,k⟩:=(h.wq.co.row n hn i).1 hi
   rw[(h.only hy).2,h.ln] at k
   exact e k.symm
theorem One.row0 (h:One la pa de lane z q) (hs:z.st≠1) (n:Nat) (hn:n<8):q.rows n=[]:=list_none fun i hi=>by
 obtain⟨y,hy,k,-⟩:=(h.wq.co.row n hn i).1 hi
 rw[(h.only hy).2] at k
 exact hs k
theorem One.get (h:One la pa de lane z q):getI q z.id=z:=by unfold getI;rw[h.self];rfl
theorem One.peekL (h:One la pa de lane z q) (hs:z.st=1):∀l:List Nat,(∀n∈l,n<8)→lane.toNat∈l→Go.Proofs.YtcfgafododiioaaGreatDoor.peekL q lane l=(z,0)
 |[],_,hm=>by simp at hm
 |n::r,hn,hm=>by
  have hr:=h.rng
  unfold Go.Proofs.YtcfgafododiioaaGreatDoor.peekL
  by_cases e:n=lane.toNat
  · rw[if_neg (by omega),h.row hs n (hn n (by simp)),if_pos e]
    dsimp only
    rw[h.get]
  · rw[if_pos ⟨by omega,by omega⟩]
    refine h.peekL hs r (fun m k=>hn m (List.mem_cons_of_mem _ k)) ?_
    rcases List.mem_cons.1 hm with k|k
    · exact absurd k.symm e
    · exact k
theorem One.peekL0 (h:One la pa de lane z q) (hs:z.st≠1):∀l:List Nat,(∀n∈l,n<8)→Go.Proofs.YtcfgafododiioaaGreatDoor.peekL q lane l=(it0,11)
 |[],_=>rfl
 |n::r,hn=>by
  have ih:=h.peekL0 hs r fun m k=>hn m (List.mem_cons_of_mem _ k)
  unfold Go.Proofs.YtcfgafododiioaaGreatDoor.peekL
  split
  · exact ih
  · rw[h.row0 hs n (hn n (by simp))];exact ih
theorem One.peek (h:One la pa de lane z q):peekQ q lane=if z.st=1 then(z,0) else(it0,11):=by
 have hr:=h.rng
 have hb:∀n∈List.range q.lanes.toNat,n<8:=fun n hn=>by rw[List.mem_range,h.la] at hn;omega
 unfold peekQ
 rw[if_neg (by rw[h.la];omega)]
 split
 · rename_i hs
   exact h.peekL hs _ hb (by rw[List.mem_range,h.la];omega)
 · rename_i hs
   exact h.peekL0 hs _ hb
theorem One.bec (h:One la pa de lane z q) {l:L} (hs:l.s=1∨l.s=2∨l.s=3∨l.s=4) (hw:WQ (becQ q z l)):One la pa de lane (becI q z l) (becQ q z l):=by
 obtain⟨a1,a2,a3,-⟩:=becQ_same q z l
 refine⟨hw,a1.trans h.la,a2.trans h.pa,a3.trans h.de,fun i=> ?_,h.ln⟩
 rw[look_bec (by omega)]
 have e5:¬(becI q z l).st=5:=by show¬l.s=5;omega
 unfold entG
 rw[if_neg e5]
 unfold setG delG
 show(if i=z.id then some (becI q z l) else if i=z.id then none else look q i)=if i=z.id then some (becI q z l) else none
 by_cases e:i=z.id
 · rw[if_pos e,if_pos e]
 · rw[if_neg e,if_neg e,if_neg e,h.lk,if_neg e]
theorem toN {n:Int} (h0:0≤n) (h1:n<18446744073709551616):((UInt64.ofNat n.toNat).toNat:Int)=n:=by
 rw[UInt64.toNat_ofNat']
 omega
theorem One.lease (h:One la pa de lane z q) (hs:z.st=1) {span:UInt64} (h0:span≠0) (ho:q.now.toNat+span.toNat<18446744073709551616) (hw:WQ (leaseQ q lane span).2.2):
 ∃y,(leaseQ q lane span).1=y∧(leaseQ q lane span).2.1=0∧One la pa de lane y (leaseQ q lane span).2.2∧y.id=z.id∧y.st=3∧y.ct=z.ct+1∧y.due.toNat=q.now.toNat+span.toNat∧(leaseQ q lane span).2.2.now=q.now:=by
 have hct:=(h.wq.it _ (look_in h.self)).lf
 have hcf:=h.wq.cf
 dsimp only at hct
 have hwr:wrap64 (z.ct+1)=z.ct+1:=by unfold wrap64;omega
 have hn0:¬(span.toNat:Int)=0:=fun e=>h0 (UInt64.toNat_inj.1 (show span.toNat=0 by omega))
 have hl:leaseL z.l q.now.toNat span.toNat (q.leases+1).toNat=(⟨3,z.ct+1,(q.now.toNat:Int)+span.toNat,((q.leases+1).toNat:Int)⟩,0):=by
  unfold leaseL overP
  rw[if_neg (by show¬z.st≠1;omega),if_neg hn0,if_neg (by omega)]
  show(((⟨3,wrap64 (z.ct+1),_,_⟩:L),(0:Int)))=_
  rw[hwr]
 have e:leaseQ q lane span=(becI q z ⟨3,z.ct+1,(q.now.toNat:Int)+span.toNat,((q.leases+1).toNat:Int)⟩,0,becQ {q with leases:=q.leases+1} z ⟨3,z.ct+1,(q.now.toNat:Int)+span.toNat,((q.leases+1).toNat:Int)⟩):=by
  unfold leaseQ
  rw[if_neg h0,h.peek,if_pos hs,if_neg (by simp)]
  dsimp only
  rw[hl]
  dsimp only
  rw[if_neg (by simp)]
 rw[e] at hw⊢
 dsimp only at hw⊢
 have h':∀i,look {q with leases:=q.leases+1} i=if i=z.id then some z else none:=h.lk
 obtain⟨a1,a2,a3,a4,-⟩:=becQ_same {q with leases:=q.leases+1} z ⟨3,z.ct+1,(q.now.toNat:Int)+span.toNat,((q.leases+1).toNat:Int)⟩
 refine⟨_,rfl,rfl,⟨hw,a1.trans h.la,a2.trans h.pa,a3.trans h.de,fun i=> ?_,h.ln⟩,rfl,rfl,rfl,?_,a4⟩
 · rw[look_bec (by show(3:Int)=1∨(3:Int)=2∨(3:Int)=3∨(3:Int)=4∨(3:Int)=5;omega)]
   have e5:¬(becI {q with leases:=q.leases+1} z ⟨3,z.ct+1,(q.now.toNat:Int)+span.toNat,((q.leases+1).toNat:Int)⟩).st=5:=by show¬(3:Int)=5;omega
   unfold entG
   rw[if_neg e5]
   unfold setG delG
   show(if i=z.id then some _ else if i=z.id then none else look q i)=if i=z.id then some _ else none
   by_cases e:i=z.id
   · rw[if_pos e,if_pos e];rfl
   · rw[if_neg e,if_neg e,if_neg e,h.lk,if_neg e]
 · have:=toN (n:=(q.now.toNat:Int)+span.toNat) (by omega) (by omega)
   show(UInt64.ofNat ((q.now.toNat:Int)+span.toNat).toNat).toNat=_
   omega
theorem One.lease0 (h:One la pa de lane z q) (hs:z.st≠1) {span:UInt64} (h0:span≠0):leaseQ q lane span=(it0,11,q):=by
 unfold leaseQ
 rw[if_neg h0,h.peek,if_neg hs,if_pos (by simp)]
theorem end_st (x:L) (de:Int):(endL x de).s=(if de≤x.c then 4 else 1)∧(endL x de).c=x.c:=by
 unfold endL
 split
 · exact⟨rfl,rfl⟩
 · exact⟨rfl,rfl⟩
theorem One.nack (h:One la pa de lane z q) (hs:z.st=3) (hw:WQ (nackQ q z.tok 0).2.2):∃y,(nackQ q z.tok 0).2.1=0∧One la pa de lane y (nackQ q z.tok 0).2.2∧y.id=z.id∧y.st=(if de≤z.ct then 4 else 1)∧y.ct=z.ct∧(nackQ q z.tok 0).2.2.now=q.now:=by
 have hh:q.hld.lookup z.tok=some z.id:=(h.wq.co.hld _ _).2 ⟨z,h.self,hs,rfl⟩
 obtain⟨l,hl⟩:∃l,(if de≤z.ct then endL z.l de else⟨1,z.ct,0,0⟩)=l:=⟨_,rfl⟩
 have hls:l.s=(if de≤z.ct then 4 else 1)∧l.c=z.ct:=by
  rw[←hl]
  split
  · rename_i k
    have:=end_st z.l de
    rw[show z.l.c=z.ct from rfl,if_pos k] at this
    exact this
  · exact⟨rfl,rfl⟩
 have e:nackQ q z.tok 0=(becI q z l,0,becQ q z l):=by
  unfold nackQ withQ
  rw[hh]
  dsimp only
  rw[h.get]
  have hk:nackL z.l z.tok.toNat q.now.toNat (0:UInt64).toNat q.del=(l,0):=by
   unfold nackL
   rw[if_pos ⟨hs,rfl⟩,h.de,←hl]
   show(if de≤z.ct then(endL z.l de,(0:Int)) else waitL z.l q.now.toNat (0:UInt64).toNat)=_
   split
   · rfl
   · unfold waitL
     rw[if_pos (by rfl)];rfl
  rw[hk,if_neg (by simp)]
 rw[e] at hw⊢
 dsimp only at hw⊢
 refine⟨_,rfl,h.bec (by rw[hls.1];split<;>omega) hw,rfl,hls.1,hls.2,(becQ_same q z l).2.2.2.1⟩
theorem One.tick (h:One la pa de lane z q) (hs:z.st=3) {span:UInt64} (hd:z.due.toNat=q.now.toNat+span.toNat) (hb:q.turns.toNat+300<18446744073709551615) (hw:WQ (tickQ q span).2.2):
 ∃y,(tickQ q span).1=1∧(tickQ q span).2.1=0∧One la pa de lane y (tickQ q span).2.2∧y.id=z.id∧y.st=(if de≤z.ct then 4 else 1)∧y.ct=z.ct∧(tickQ q span).2.2.now.toNat=q.now.toNat+span.toNat:=by
 have hdl:=z.due.toNat_lt
 have hno:¬18446744073709551615 - q.now<span:=by
  rw[UInt64.lt_iff_toNat_lt,UInt64.toNat_sub_of_le _ _ (by rw[UInt64.le_iff_toNat_le];have:=q.now.toNat_lt;show _≤18446744073709551615;omega)]
  have:(18446744073709551615:UInt64).toNat=18446744073709551615:=rfl
  omega
 have hnow:(q.now+span).toNat=q.now.toNat+span.toNat:=by rw[UInt64.toNat_add];omega
 have h':One la pa de lane z {q with now:=q.now+span}:=⟨h.wq.clock _,h.la,h.pa,h.de,h.lk,h.ln⟩
 obtain⟨r,hr⟩:∃r:QR,{q with now:=q.now+span}=r:=⟨_,rfl⟩
 have hrn:r.now.toNat=q.now.toNat+span.toNat:=by rw[←hr];exact hnow
 have hrt:r.turns=q.turns:=by rw[←hr]
 have e:tickQ q span=((tickL 201 r).1,0,(tickL 201 r).2):=by unfold tickQ;rw[if_neg hno,hr]
 rw[hr] at h'
 rw[e] at hw⊢
 dsimp only at hw⊢
 clear e
 have hdue:dueI r=[z]:=by
  unfold dueI
  rw[h'.its,List.filter_cons_of_pos,List.filter_nil]
  rw[decide_eq_true_eq,UInt64.le_iff_toNat_le]
  exact⟨.inr hs,by omega⟩
 have hle:leastI (dueI r)=some z:=by rw[hdue];rfl
 obtain⟨l,hl⟩:∃l,passL z.l r.now.toNat r.del=l:=⟨_,rfl⟩
 have hls:l.s=(if de≤z.ct then 4 else 1)∧l.c=z.ct:=by
  rw[←hl]
  unfold passL
  rw[if_neg (by show¬(r.now.toNat:Int)<(z.due.toNat:Int);omega),if_neg (by show¬z.st=2;omega),if_pos (by exact hs),h'.de]
  exact end_st z.l de
 have h1s:l.s=1∨l.s=4:=by rw[hls.1];split<;>omega
 obtain⟨k,hk⟩:∃k,k=200:=⟨_,rfl⟩
 have e1:tickL 201 r=((tickL k (becQ r z l)).1+1,(tickL k (becQ r z l)).2):=by
  rw[show 201=k+1 by omega,tickL,hle]
  dsimp only
  rw[hl]
 have hw2:WQ (becQ r z l):=by
  rw[←hl]
  exact h'.wq.pass h'.self (.inr hs) (by rw[UInt64.le_iff_toNat_le];omega) (by rw[hrt];omega)
 have h2:=h'.bec (l:=l) (by omega) hw2
 have hd2:dueI (becQ r z l)=[]:=by
  unfold dueI
  rw[h2.its,List.filter_cons_of_neg,List.filter_nil]
  rw[decide_eq_true_eq]
  rintro⟨a,-⟩
  have:(becI r z l).st=l.s:=rfl
  omega
 have e2:tickL k (becQ r z l)=(0,becQ r z l):=by
  cases k with
  |zero=>rfl
  |succ k=>rw[tickL,leastI_none.2 hd2]
 rw[e1,e2]
 dsimp only
 exact⟨_,rfl,rfl,h2,rfl,hls.1,hls.2,by rw[(becQ_same r z l).2.2.2.1];exact hrn⟩
theorem One.requeue (h:One la pa de lane z q) (hs:z.st=4) (hw:WQ (deadQ q z.id 1).2):∃y,(deadQ q z.id 1).1=0∧One la pa de lane y (deadQ q z.id 1).2∧y.id=z.id∧y.st=1∧y.ct=0∧(deadQ q z.id 1).2.now=q.now:=by
 have e:deadQ q z.id 1=(0,becQ q z ⟨1,0,0,0⟩):=by
  unfold deadQ
  dsimp only
  rw[h.get]
  have hk:deadL z.l 1=(⟨1,0,0,0⟩,0):=by
   unfold deadL
   exact if_pos hs
  rw[hk,if_neg (by simp)]
 rw[e] at hw⊢
 dsimp only at hw⊢
 exact⟨_,rfl,h.bec (.inl rfl) hw,rfl,rfl,rfl,(becQ_same q z _).2.2.2.1⟩
theorem One.purge (h:One la pa de lane z q) (hs:z.st=4):(deadQ q z.id 5).1=0∧(deadQ q z.id 5).2.its=[]:=by
 have e:deadQ q z.id 5=(0,becQ q z ⟨5,0,0,0⟩):=by
  unfold deadQ
  dsimp only
  rw[h.get]
  have hk:deadL z.l 5=(⟨5,0,0,0⟩,0):=by
   unfold deadL
   exact if_pos hs
  rw[hk,if_neg (by simp)]
 rw[e]
 refine⟨rfl,list_none fun b hb=> ?_⟩
 have h1:look (becQ q z ⟨5,0,0,0⟩) b.1=none:=by
  rw[look_bec (.inr (.inr (.inr (.inr rfl))))]
  unfold entG
  rw[if_pos (by rfl)]
  unfold delG
  split
  · rfl
  · rename_i e;rw[h.lk,if_neg e]
 unfold look at h1
 rw[lku_none] at h1
 exact h1 (List.mem_map.2 ⟨b,hb,rfl⟩)
theorem One.dead (h:One la pa de lane z q) (hs:z.st=4):cntT (q.its.map Prod.snd) 4=1:=by
 rw[h.its]
 simp[cntT,hs]
end
theorem One.put {N:Nat} {la pa de lane:Int} {q:QR} (h:MadeR N la pa de s0R q) (h0:0≤lane) (h1:lane<la) (hw:WQ (putQ q lane 0 0 0 0).2.2):
 ∃y,(putQ q lane 0 0 0 0).1=1∧(putQ q lane 0 0 0 0).2.1=0∧One la pa de lane y (putQ q lane 0 0 0 0).2.2∧y.id=1∧y.st=1∧y.ct=0∧(putQ q lane 0 0 0 0).2.2.now=0:=by
 have hnow:q.now=0:=congrArg SR.now h.st
 have hnext:q.next=1:=congrArg SR.next h.st
 have hits:q.its=[]:=by
  have hi:sortN (q.its.map Prod.snd)=[]:=congrArg SR.items h.st
  have:=(sortN_perm (q.its.map Prod.snd)).length_eq
  rw[hi,List.length_map] at this
  exact List.length_eq_zero_iff.1 this.symm
 have hcf:=h.xq.wi.wq.cf
 have e:putQ q lane 0 0 0 0=(1,0,{becQ q (newI q lane 0 0 0) ⟨1,0,0,0⟩ with next:=q.next+1}):=by
  unfold putQ
  rw[if_neg (by rw[h.la];have:=hcf;omega),if_neg (by rw[hits];simp),if_neg (by rw[hnext];decide),hnow,if_neg (by decide),hnext]
  rfl
 rw[e] at hw⊢
 dsimp only at hw⊢
 obtain⟨a1,a2,a3,a4,-⟩:=becQ_same q (newI q lane 0 0 0) ⟨1,0,0,0⟩
 refine⟨becI q (newI q lane 0 0 0) ⟨1,0,0,0⟩,rfl,rfl,⟨hw,a1.trans h.la,a2.trans h.pa,a3.trans h.de,fun i=> ?_,rfl⟩,hnext,rfl,rfl,a4.trans hnow⟩
 show look (becQ q (newI q lane 0 0 0) ⟨1,0,0,0⟩) i=_
 rw[look_bec (.inl rfl)]
 unfold entG
 rw[if_neg (by show¬(1:Int)=5;omega)]
 unfold setG delG
 show(if i=q.next then some _ else if i=q.next then none else look q i)=if i=q.next then some _ else none
 by_cases e:i=q.next
 · rw[if_pos e,if_pos e]
 · rw[if_neg e,if_neg e,if_neg e]
   unfold look
   rw[hits];rfl
end Go.Proofs.YtcfgafododiioaaGreatDoor
set_option maxRecDepth 100000
namespace Go.Proofs.YtcfgafododiioaaGreatDoor
open Go Go.RowKit Go.Tum Go.ChangeMaps Go.Sort
structure Dy (n T:Nat) (la pa de lane:Int) (z:It) (q:QR):Prop where
 o:One la pa de lane z q
 xq:XQ (300*n) q
 id:z.id=1
 nw:q.now.toNat≤T
theorem Dy.mono {n m T S:Nat} {la pa de lane:Int} {z:It} {q:QR} (h:Dy n T la pa de lane z q) (k:n≤m) (l:T≤S):Dy m S la pa de lane z q:=⟨h.o,h.xq.mono (by omega),h.id,by have:=h.nw;omega⟩
theorem xq_of {N:Nat} {q:QR} {a:Ai} {k:Kd} {r:QR} (h:XQ N q) (hN:N+300≤5000000000000000000) (hk:kindI a=k) (hr:(actB q a k).2=r):XQ (N+300) r:=by
 have:=h.act hN a
 unfold actI at this
 rw[hk,hr] at this
 exact this
section
variable {B n T : Nat} {w : World} {p : Nat} {x : XP} {q : QR} {la pa de lane : Int} {z : It}
theorem dy_put {w:World} (h:IX B w p x q) (hM:MadeR 0 la pa de s0R q) (h0:0≤lane) (h1:lane<la):
 Calls Tryz.prog 31 #[pv p,.int .i64 lane,vU 0,.agg #[vU 0,vU 0,.int .i64 0]] w fun e w'=>e= .returned (.tuple #[vU 1,.int .i64 0])∧∃x' q' z',IX B w' p x' q'∧Dy 1 0 la pa de lane z' q'∧z'.st=1∧z'.ct=0∧Below B w w':=by
 refine(put_any11 lane 0 0 0 0 h h.bs hM.xq.wi.wq).mono ?_
 rintro e w' ⟨rfl,hst⟩
 have hx:=xq_of (a:=⟨0,lane,0,0,0,[],0,0,0⟩) (k:= .a0) hM.xq (by decide) (by unfold kindI;simp) (by rw[actB0])
 dsimp only at hx
 obtain⟨y,e1,e2,o,i1,i2,i3,i4⟩:=One.put hM h0 h1 hx.wi.wq
 obtain⟨x',i',bl,-⟩:=hst.keep h.blo h.bs
 exact⟨by rw[e1,e2],x',_,y,i',⟨o,hx.mono (by omega),i1,by rw[i4];exact Nat.le_refl _⟩,i2,i3,bl⟩
theorem dy_lease (h:IX B w p x q) (hd:Dy n T la pa de lane z q) (hn:n≤1000) (hs:z.st=1) {span:UInt64} (h0:span≠0) (hT:T+span.toNat<18446744073709551616):
 Calls Tryz.prog 33 #[pv p,.int .i64 lane,vU span] w fun e w'=>∃x' q' z',e= .returned (.tuple #[itV z',.int .i64 0])∧IX B w' p x' q'∧Dy (n+1) T la pa de lane z' q'∧z'.st=3∧z'.ct=z.ct+1∧z'.due.toNat=q'.now.toNat+span.toNat∧Below B w w':=by
 refine(lease_any11 lane span h h.bs hd.xq.wi.wq (by have:=hd.xq.wi.lo.le;omega)).mono ?_
 rintro e w' ⟨rfl,hst⟩
 have hx:=xq_of (a:=⟨1,lane,0,0,span,[],0,0,0⟩) (k:= .a1) hd.xq (by omega) (by unfold kindI;simp) (by rw[actB1])
 dsimp only at hx
 obtain⟨y,e1,e2,o,i1,i2,i3,i4,i5⟩:=hd.o.lease hs h0 (by have:=hd.nw;omega) hx.wi.wq
 obtain⟨x',i',bl,-⟩:=hst.keep h.blo h.bs
 exact⟨x',_,y,by rw[e1,e2],i',⟨o,hx.mono (by omega),i1.trans hd.id,by rw[i5];exact hd.nw⟩,i2,i3,by rw[i5];exact i4,bl⟩
theorem dy_lease0 (h:IX B w p x q) (hd:Dy n T la pa de lane z q) (hn:n≤1000) (hs:z.st≠1) {span:UInt64} (h0:span≠0):
 Calls Tryz.prog 33 #[pv p,.int .i64 lane,vU span] w fun e w'=>∃x',e= .returned (.tuple #[itV it0,.int .i64 11])∧IX B w' p x' q∧Below B w w':=by
 refine(lease_any11 lane span h h.bs hd.xq.wi.wq (by have:=hd.xq.wi.lo.le;omega)).mono ?_
 rintro e w' ⟨rfl,hst⟩
 rw[hd.o.lease0 hs h0] at hst⊢
 obtain⟨x',i',bl,-⟩:=hst.keep h.blo h.bs
 exact⟨x',rfl,i',bl⟩
theorem dy_nack (h:IX B w p x q) (hd:Dy n T la pa de lane z q) (hn:n≤1000) (hs:z.st=3):
 Calls Tryz.prog 35 #[pv p,vU z.tok,vU 0] w fun e w'=>∃x' q' z' it,e= .returned (.tuple #[itV it,.int .i64 0])∧IX B w' p x' q'∧Dy (n+1) T la pa de lane z' q'∧z'.st=(if de≤z.ct then 4 else 1)∧z'.ct=z.ct∧Below B w w':=by
 refine(xnck_any z.tok 0 h h.bs hd.xq.wi.wq).mono ?_
 rintro e w' ⟨rfl,hst⟩
 have hx:=xq_of (a:=⟨3,0,0,z.tok,0,[],0,0,0⟩) (k:= .a3) hd.xq (by omega) (by unfold kindI;simp) (by rw[actB3])
 dsimp only at hx
 obtain⟨y,e1,o,i1,i2,i3,i4⟩:=hd.o.nack hs hx.wi.wq
 obtain⟨x',i',bl,-⟩:=hst.keep h.blo h.bs
 exact⟨x',_,y,_,by rw[e1],i',⟨o,hx.mono (by omega),i1.trans hd.id,by rw[i4];exact hd.nw⟩,i2,i3,bl⟩
theorem dy_tick (h:IX B w p x q) (hd:Dy n T la pa de lane z q) (hn:n≤1000) (hs:z.st=3) {span:UInt64} (hdu:z.due.toNat=q.now.toNat+span.toNat):
 Calls Tryz.prog 34 #[pv p,vU span] w fun e w'=>∃x' q' z',e= .returned (.tuple #[.int .i64 1,.int .i64 0])∧IX B w' p x' q'∧Dy (n+1) (T+span.toNat) la pa de lane z' q'∧z'.st=(if de≤z.ct then 4 else 1)∧z'.ct=z.ct∧Below B w w':=by
 obtain⟨R,hR⟩:∃R,tickQ q span=R:=⟨_,rfl⟩
 have hx:=act_tick2 hd.xq (by omega) span hR
 have ht:= @One.tick la pa de lane z q hd.o hs span hdu (by have:=hd.xq.wi.lo.tu;omega)
 have hc:=tick_any11 span h h.bs hd.xq.wi.wq (by have:=hd.xq.wi.lo.tu;omega)
 rw[hR] at ht hc
 refine hc.mono ?_
 rintro e w' ⟨rfl,hst⟩
 obtain⟨y,e1,e2,o,i1,i2,i3,i4⟩:=ht hx.wi.wq
 obtain⟨x',i',bl,-⟩:=hst.keep h.blo h.bs
 exact⟨x',_,y,by rw[e1,e2];rfl,i',⟨o,hx.mono (by omega),i1.trans hd.id,by have:=hd.nw;omega⟩,i2,i3,bl⟩
theorem dy_requeue (h:IX B w p x q) (hd:Dy n T la pa de lane z q) (hn:n≤1000) (hs:z.st=4):
 Calls Tryz.prog 36 #[pv p,vU 1] w fun e w'=>∃x' q' z',e= .returned (.int .i64 0)∧IX B w' p x' q'∧Dy (n+1) T la pa de lane z' q'∧z'.st=1∧z'.ct=0∧Below B w w':=by
 rw[←hd.id]
 refine(xrequeue_any z.id h h.bs hd.xq.wi.wq).mono ?_
 rintro e w' ⟨rfl,hst⟩
 have hx:=xq_of (a:=⟨6,0,0,z.id,0,[],0,0,0⟩) (k:= .a6) hd.xq (by omega) (by unfold kindI;simp) (by rw[actB6])
 dsimp only at hx
 obtain⟨y,e1,o,i1,i2,i3,i4⟩:=hd.o.requeue hs hx.wi.wq
 obtain⟨x',i',bl,-⟩:=hst.keep h.blo h.bs
 exact⟨x',_,y,by rw[e1],i',⟨o,hx.mono (by omega),i1.trans hd.id,by rw[i4];exact hd.nw⟩,i2,i3,bl⟩
theorem dy_purge (h:IX B w p x q) (hd:Dy n T la pa de lane z q) (hn:n≤1000) (hs:z.st=4):
 Calls Tryz.prog 37 #[pv p,vU 1] w fun e w'=>∃x' q',e= .returned (.int .i64 0)∧IX B w' p x' q'∧WQ q'∧q'.its=[]∧Below B w w':=by
 rw[←hd.id]
 refine(xpurge_any z.id h h.bs hd.xq.wi.wq).mono ?_
 rintro e w' ⟨rfl,hst⟩
 have hx:=xq_of (a:=⟨7,0,0,z.id,0,[],0,0,0⟩) (k:= .a7) hd.xq (by omega) (by unfold kindI;simp) (by rw[actB7])
 dsimp only at hx
 obtain⟨e1,e2⟩:=hd.o.purge hs
 obtain⟨x',i',bl,-⟩:=hst.keep h.blo h.bs
 exact⟨x',_,by rw[e1],i',hx.wi.wq,e2,bl⟩
theorem dead_stats (h:IX B w p x q) (hq:WQ q) {d:Nat} (hd:cntT (q.its.map Prod.snd) 4=d):
 Calls Tryz.prog 26 #[pv p] w fun e w'=>(∃a b c d1 d2,e= .returned (.agg #[a,b,c,d1,d2,.int .i64 (d:Int)]))∧Ext w w':=by
 refine(stats_any h hq).mono ?_
 rintro e w' ⟨⟨ro,rc,k,hk,rfl,ho⟩,hx⟩
 exact⟨⟨_,_,_,_,_,by rw[←hd]⟩,hx⟩
end
end Go.Proofs.YtcfgafododiioaaGreatDoor
namespace Go.Proofs.YtcfgafododiioaaGreatDoor
open Go Go.RowKit Go.Tum Go.ChangeMaps Go.Sort
structure RwS (N c T:Nat) (la pa de:Int) (q:QR):Prop where
 xq:XQ N q
 la:q.lanes=la
 pa:q.pay=pa
 de:q.del=de
 nw:q.now=0
 ct:∀i z,look q i=some z→z.st=1→z.ct=0
 ln:q.its.length≤c
 nx:q.next.toNat=c+1
 le:q.leases.toNat=T
theorem RwS.start {la pa de:Int} {q:QR} (h:MadeR 0 la pa de s0R q):RwS 0 0 0 la pa de q:=by
 have hits:q.its=[]:=by
  have hi:sortN (q.its.map Prod.snd)=[]:=congrArg SR.items h.st
  have:=(sortN_perm (q.its.map Prod.snd)).length_eq
  rw[hi,List.length_map] at this
  exact List.length_eq_zero_iff.1 this.symm
 have h1:q.next=1:=congrArg SR.next h.st
 have h2:q.leases=0:=congrArg SR.leases h.st
 exact⟨h.xq,h.la,h.pa,h.de,congrArg SR.now h.st,fun i z hz=>absurd hz (by unfold look;rw[hits];simp),by rw[hits];exact Nat.le_refl _,by rw[h1];rfl,by rw[h2];rfl⟩
theorem RwS.rows0 {la pa de:Int} {q:QR} (h:MadeR 0 la pa de s0R q):∀n,n<8→q.rows n=[]:=fun n hn=>by
 have hits:q.its=[]:=by
  have hi:sortN (q.its.map Prod.snd)=[]:=congrArg SR.items h.st
  have:=(sortN_perm (q.its.map Prod.snd)).length_eq
  rw[hi,List.length_map] at this
  exact List.length_eq_zero_iff.1 this.symm
 cases hr:q.rows n with
 |nil=>rfl
 |cons i t=>
  obtain⟨z,hz,-⟩:=(h.xq.wi.wq.co.row n hn i).1 (by rw[hr];simp)
  unfold look at hz
  rw[hits] at hz
  cases hz
section
variable {N c T : Nat} {la pa de : Int} {q : QR}
theorem RwS.mono {M:Nat} (h:RwS N c T la pa de q) (k:N≤M):RwS M c T la pa de q:=⟨h.xq.mono k,h.la,h.pa,h.de,h.nw,h.ct,h.ln,h.nx,h.le⟩
theorem RwS.fresh (h:RwS N c T la pa de q) (hc:c≤1000):look q q.next=none:=by
 have h0:q.next≠0:=fun e=>by have:=h.nx;rw[e] at this;simp at this
 cases hz:look q q.next with
 |none=>rfl
 |some z=>
  have h5:=(h.xq.wi.wq.it _ (look_in hz)).idn
  have h6:=h.xq.wi.wq.idz hz
  rcases h5 with h5|h5
  · exact absurd h5 h0
  · have h5:z.id<q.next:=h5
    rw[←h6] at h5
    exact absurd h5 (UInt64.lt_irrefl _)
theorem RwS.put (h:RwS N c T la pa de q) (hc:c<100) {lane:Int} (h0:0≤lane) (h1:lane<la) (hx:XQ (N+300) (putQ q lane 0 0 0 0).2.2):
 ∃i,(putQ q lane 0 0 0 0).1=i∧(putQ q lane 0 0 0 0).2.1=0∧RwS (N+300) (c+1) T la pa de (putQ q lane 0 0 0 0).2.2∧(putQ q lane 0 0 0 0).2.2.rows=updN q.rows lane.toNat (q.rows lane.toNat++[i]):=by
 have hcf:=h.xq.wi.wq.cf
 have hfr:=h.fresh (by omega)
 have hn0:q.next≠0:=fun e=>by have:=h.nx;rw[e] at this;simp at this
 have hw:waitL l0 q.now.toNat (0:UInt64).toNat=(⟨1,0,0,0⟩,0):=rfl
 have e:putQ q lane 0 0 0 0=(q.next,0,{becQ q (newI q lane 0 0 0) ⟨1,0,0,0⟩ with next:=q.next+1}):=by
  unfold putQ
  rw[if_neg (by rw[h.la];omega),if_neg (by have:=h.ln;omega),if_neg hn0,hw,if_neg (by simp)]
 rw[e] at hx⊢
 dsimp only at hx⊢
 obtain⟨a1,a2,a3,a4,a5,a6,a7⟩:=becQ_same q (newI q lane 0 0 0) ⟨1,0,0,0⟩
 have hlk:∀i z,look (becQ q (newI q lane 0 0 0) ⟨1,0,0,0⟩) i=some z→z.st=1→z.ct=0:=fun i z hz hs=>by
  rw[look_bec (.inl rfl)] at hz
  rcases ent_cases hz with ⟨k,-,-⟩|⟨-,k⟩
  · rw[k];rfl
  · exact h.ct i z k hs
 have hits:(becQ q (newI q lane 0 0 0) ⟨1,0,0,0⟩).its.length≤c+1:=by
  rw[bec_its (.inl rfl),List.length_cons]
  have:(noK q.its (newI q lane 0 0 0).id).length≤q.its.length:=noK_le
  have:=h.ln
  omega
 have hrows:(becQ q (newI q lane 0 0 0) ⟨1,0,0,0⟩).rows=updN q.rows lane.toNat (q.rows lane.toNat++[q.next]):=by
  have hl:leaveQ q (newI q lane 0 0 0)=q:=by
   unfold leaveQ
   rw[if_neg (by show¬(0:Int)=1;omega),if_neg (by show¬(0:Int)=2;omega),if_neg (by show¬(0:Int)=3;omega),if_neg (by show¬(0:Int)=4;omega)]
  have hni:q.next∉q.rows lane.toNat:=fun hm=>by
   obtain⟨z,hz,-⟩:=(h.xq.wi.wq.co.row lane.toNat (by rw[h.la] at hcf;omega) q.next).1 hm
   rw[hfr] at hz;cases hz
  unfold becQ
  dsimp only
  rw[hl,enterQ1 _ _ (by rfl)]
  show updN q.rows lane.toNat (putR (q.rows lane.toNat) q.next)=_
  unfold putR
  rw[if_neg hni]
 refine⟨q.next,rfl,rfl,⟨hx,a1.trans h.la,a2.trans h.pa,a3.trans h.de,a4.trans h.nw,hlk,hits,?_,by show(becQ q _ _).leases.toNat=_;rw[a6];exact h.le⟩,hrows⟩
 show(q.next+1).toNat=_
 have:=h.nx
 rw[UInt64.toNat_add,show(1:UInt64).toNat=1 from rfl]
 omega
theorem RwS.put0 (h:RwS N c T la pa de q) {lane:Int} (h0:lane<0∨la≤lane):putQ q lane 0 0 0 0=(0,1,q):=by
 unfold putQ
 rw[if_pos (by rw[h.la];omega)]
theorem peek_first {q:QR} {n:Nat} {i:UInt64} {t:List UInt64} (hr:q.rows n=i::t):∀l:List Nat,l.Pairwise (· < ·)→n∈l→(∀m∈l,m<n→q.rows m=[])→peekL q (-1) l=(getI q i,0)
 |[],_,hm,_=>by simp at hm
 |m::l,hp,hm,he=>by
  rw[List.pairwise_cons] at hp
  unfold peekL
  rw[if_neg (by omega)]
  by_cases e:m=n
  · rw[e,hr]
  · rcases List.mem_cons.1 hm with k|k
    · exact absurd k.symm e
    · rw[he m (by simp) (hp.1 n k)]
      exact peek_first hr l hp.2 k fun a ha=>he a (List.mem_cons_of_mem _ ha)
theorem peek_no {q:QR}:∀l:List Nat,(∀m∈l,q.rows m=[])→peekL q (-1) l=(it0,11)
 |[],_=>rfl
 |m::l,he=>by
  unfold peekL
  rw[if_neg (by omega),he m (by simp)]
  exact peek_no l fun a ha=>he a (List.mem_cons_of_mem _ ha)
theorem RwS.peekN (h:RwS N c T la pa de q) (he:∀m,m<8→q.rows m=[]):peekQ q (-1)=(it0,11):=by
 have hcf:=h.xq.wi.wq.cf
 unfold peekQ
 rw[if_neg (by omega)]
 exact peek_no _ fun m hm=>he m (by rw[List.mem_range] at hm;omega)
theorem RwS.lease (h:RwS N c T la pa de q) {n:Nat} (hn:n<8) {i:UInt64} {t:List UInt64} (hr:q.rows n=i::t) (he:∀m,m<n→q.rows m=[]) {span:UInt64} (hs:span≠0) (hT:T≤100000) (hx:XQ (N+300) (leaseQ q (-1) span).2.2):
 ∃z y,peekQ q (-1)=(z,0)∧z.id=i∧(leaseQ q (-1) span).1=y∧(leaseQ q (-1) span).2.1=0∧y.id=i∧y.st=3∧y.ct=1∧y.due=span∧y.tok.toNat=T+1∧
  RwS (N+300) c (T+1) la pa de (leaseQ q (-1) span).2.2∧(leaseQ q (-1) span).2.2.rows=updN q.rows n t:=by
 have hcf:=h.xq.wi.wq.cf
 have hwq:=h.xq.wi.wq
 obtain⟨z,hz,hst,hzl⟩:=(hwq.co.row n hn i).1 (by rw[hr];simp)
 have hzr:=hwq.it _ (look_in hz)
 have hid:=hwq.idz hz
 have hln:=hzr.ln
 dsimp only at hln
 have hg:=(hwq.get hz).1
 have hp:peekQ q (-1)=(z,0):=by
  unfold peekQ
  rw[if_neg (by omega),peek_first hr _ List.pairwise_lt_range (by rw[List.mem_range];omega) (fun m _ hm=>he m hm),hg]
 have hzc:=h.ct i z hz hst
 have hn0:¬(span.toNat:Int)=0:=fun e=>hs (UInt64.toNat_inj.1 (show span.toNat=0 by omega))
 have hnow:q.now.toNat=0:=by rw[h.nw];rfl
 have hsl:=span.toNat_lt
 have htok:(q.leases+1).toNat=T+1:=by
  have:=h.le
  rw[UInt64.toNat_add,show(1:UInt64).toNat=1 from rfl]
  omega
 obtain⟨l,hl⟩:∃l:L,l=⟨3,1,(span.toNat:Int),((T+1:Nat):Int)⟩:=⟨_,rfl⟩
 have hle:leaseL z.l q.now.toNat span.toNat (q.leases+1).toNat=(l,0):=by
  unfold leaseL overP
  rw[if_neg (by show¬z.st≠1;omega),if_neg hn0,if_neg (by rw[hnow];omega),htok,hnow,hl]
  show(((⟨3,wrap64 (z.ct+1),_,_⟩:L),(0:Int)))=_
  rw[hzc,show wrap64 ((0:Int)+1)=1 by unfold wrap64;omega]
  simp
 have e:leaseQ q (-1) span=(becI q z l,0,becQ {q with leases:=q.leases+1} z l):=by
  unfold leaseQ
  rw[if_neg hs,hp,if_neg (by simp)]
  dsimp only
  rw[hle,if_neg (by simp)]
 have hls:l.s=3:=by rw[hl]
 rw[e] at hx⊢
 dsimp only at hx⊢
 obtain⟨a1,a2,a3,a4,a5,a6,a7⟩:=becQ_same {q with leases:=q.leases+1} z l
 have h':∀j y,look {q with leases:=q.leases+1} j=some y→y.st=1→y.ct=0:=h.ct
 refine⟨z,becI q z l,hp,hid.symm,rfl,rfl,hid.symm,hls,by show l.c=1;rw[hl],?_,?_,⟨hx,a1.trans h.la,a2.trans h.pa,a3.trans h.de,a4.trans h.nw,fun j y hy hs=> ?_,?_,by rw[a5];exact h.nx,by rw[a6];exact htok⟩,?_⟩
 · show UInt64.ofNat l.d.toNat=span
   rw[hl]
   show UInt64.ofNat ((span.toNat:Int)).toNat=span
   rw[Int.toNat_natCast,UInt64.ofNat_toNat]
 · show(UInt64.ofNat l.t.toNat).toNat=T+1
   rw[hl]
   show(UInt64.ofNat (((T+1:Nat):Int)).toNat).toNat=T+1
   rw[Int.toNat_natCast,UInt64.toNat_ofNat']
   omega
 · rw[look_bec (by omega)] at hy
   rcases ent_cases hy with ⟨k,-,-⟩|⟨-,k⟩
   · rw[k] at hs
     have:l.s=1:=hs
     omega
   · exact h' j y k hs
 · rw[bec_its (by omega),List.length_cons]
   have h1:=noK_le1 hz hwq.nd
   have h2:=h.ln
   rw[←hid]
   show(noK q.its i).length+1≤c
   omega
 · have hnd:=(hwq.rowlen hn).2
   rw[hr,List.nodup_cons] at hnd
   have hf:(i::t).filter (fun y=>y !=z.id)=t:=by
    rw[←hid,List.filter_cons_of_neg (by simp)]
    exact List.filter_eq_self.2 fun a ha=>by
     have:a≠i:=fun e=>hnd.1 (by rw[←e];exact ha)
     simpa using this
   unfold becQ
   dsimp only
   rw[leaveQ1 _ _ hst]
   dsimp only
   rw[enterQ3 _ _ hls]
   show updN q.rows z.lane.toNat ((q.rows z.lane.toNat).filter fun y=>y !=z.id)=_
   rw[hzl,hr,hf]
end
end Go.Proofs.YtcfgafododiioaaGreatDoor
namespace Go.Proofs.YtcfgafododiioaaGreatDoor
open Go Go.RowKit Go.Tum Go.ChangeMaps Go.Sort Go.Tum.Rn
section
variable {P : Program}
theorem run_append_ids_at (base t ty e:Nat) (ht:P.underlying t=some (.slice e)) (hi:(P.info? e).map (fun i=>(i.zero,i.size,i.bytes))=some (some (.int .u64 0),1,8))
 {w:World} {v u:Value} {l1 l2:List UInt64} (hown:w.ownsRow base e 1 v l1.length (l1.map uv)) (hsl:Vec uv w u l2) (hb:l1.length+l2.length≤10000000) (hbase:base≤w.heap.size):
 ∃ao cap w',(Builtin.append_ #[t,t] ty #[v,u]).run P w= .ok (.slice ao (l1.length+l2.length) cap) w'∧w'.ownsRow base e 1 (.slice ao (l1.length+l2.length) cap) (l1.length+l2.length) ((l1++l2).map uv)∧w.grownBy w' v.ownBlock∧
  ((Value.slice ao (l1.length+l2.length) cap).ownBlock=v.ownBlock∨(Value.slice ao (l1.length+l2.length) cap).ownBlock=some w.heap.size):=by
 obtain⟨i,hi1,hz,hs,hby⟩:=info_parts hi
 obtain⟨hl,ao,cap,rfl,h3,h4,h5,h6⟩:=hsl
 have hlt:= @World.ownsRow.lt w base e 1 v l1.length (l1.map uv) hown
 cases ao with
 |none=>
  have hcap:=h5 rfl
  subst hcap
  have hm:l2.length=0:=by omega
  have hl2:l2=[]:=List.length_eq_zero_iff.1 hm
  subst hl2
  have hr:=run_append_owned_none (P:=P) w base t ty e i 1 ht hi1 v l1.length (l1.map uv) hown
  have hv:∃ao cap,v= .slice ao l1.length cap:=by
   rcases hown.2 with ⟨a,b⟩|⟨g,cap,cur,hv,_⟩
   · rw[b];exact⟨_,_,a⟩
   · exact⟨_,_,hv⟩
  obtain⟨ao,cap,hv⟩:=hv
  subst hv
  exact⟨ao,cap,w,by simpa using hr,by simpa using hown,World.grownBy.refl _ _,.inl rfl⟩
 |some a=>
  obtain⟨v',w',hr,ho,hg,_,hat⟩:=run_append_own_at (P:=P) w base t ty e i (.int .u64 0) 1 8 ht hi1 hz hs hby rfl (by decide) v l1.length (l1.map uv) hown a l2.length cap (l2.map uv) (by simp) (fun j u hu=>h6 a rfl j u hu) (by intro y hy;obtain⟨x,-,rfl⟩:=List.mem_map.1 hy;rfl) (by simp[maxLen];omega) (by omega) hbase
  have hv:∃ao cap,v'= .slice ao (l1.length+l2.length) cap:=by
   rcases ho.2 with ⟨a,b⟩|⟨g,cap,cur,hv,_⟩
   · rw[b];exact⟨_,_,a⟩
   · exact⟨_,_,hv⟩
  obtain⟨ao,cap',rfl⟩:=hv
  exact⟨ao,cap',w',hr,by simpa using ho,hg,hat⟩
theorem wpList_append_ids_at {ops:Array Oper} {rest:List Oper} {o:Oper} {a:Act} {w:World} {Q:Exit→Act→World→Prop} (hgd:o.guard=none) (s x:Operand) (t:Nat)
 (ho:o.op= .call {callee:= .builtin .append,args:= #[s,x],argTypes:= #[t,t]}) (base e:Nat) (ht:P.underlying t=some (.slice e))
 (hi:(P.info? e).map (fun i=>(i.zero,i.size,i.bytes))=some (some (.int .u64 0),1,8))
 {v:Value} {l1:List UInt64} (hs:a.eval s=v) (hown:w.ownsRow base e 1 v l1.length (l1.map uv)) {u:Value} {l2:List UInt64} (hx:a.eval x=u) (hsl:Vec uv w u l2)
 (N:Nat) (hN:N=l1.length+l2.length) (hb:N≤10000000) (hbase:base≤w.heap.size)
 (h:∀ao cap w',w'.ownsRow base e 1 (.slice ao N cap) N ((l1++l2).map uv)→Fr (oB v) w w'→((Value.slice ao N cap).ownBlock=v.ownBlock∨(Value.slice ao N cap).ownBlock=some w.heap.size)→wpList P ops Q rest (a.put o.dst (.slice ao N cap)) w'):
 wpList P ops Q (o::rest) a w:=by
 subst hN
 obtain⟨ao,cap,w',hr,h2,h3,h5⟩:=run_append_ids_at (P:=P) base t o.type e ht hi hown hsl hb hbase
 have hlt:= @World.ownsRow.lt w base e 1 v l1.length (l1.map uv) hown
 have hfr:Fr (oB v) w w':=fr_grownD h3 ((Below.refl base w).grown h3 hbase fun k hk=>(hlt k hk).1)
 refine wpList_plain hgd fun K hK=> ?_
 unfold Oper.wp execOp
 subst hs hx
 simp only[ho,resolve,invoke,builtin,Sem.run_bind,Sem.run_pure,Result.andThen_ok,List.map_toArray,List.map_cons,List.map_nil,hr]
 exact hK _ _ (h ao cap w' h2 hfr h5)
end
theorem oB_new {v v':Value} {n:Nat} (h:v'.ownBlock=v.ownBlock∨v'.ownBlock=some n):∀q∈oB v',q∈oB v∨q=n:=fun q hq=>by
 unfold oB at*
 rcases h with h|h
 · rw[h] at hq;exact .inl hq
 · rw[h] at hq;simp at hq;exact .inr hq
theorem row_lt2 {w:World} {b e s n:Nat} {v:Value} {xs:List Value} (h:w.ownsRow b e s v n xs):∀q∈oB v,q<w.heap.size:=fun q hq=>by
 obtain⟨cs,e⟩:=row_kind h q hq
 exact(Array.getElem?_eq_some_iff.1 e).1
end Go.Proofs.YtcfgafododiioaaGreatDoor
set_option maxRecDepth 100000
namespace Go.Proofs.YtcfgafododiioaaGreatDoor
open Go Go.RowKit Go.Tum Go.ChangeMaps Go.Sort
open Go.ParB (upd Lof)
open Go.ParE (putS slotsR slots Closed)
def IntsI (w:World) (v:Value) (l:List Int):Prop:=∃ao cap,v= .slice ao l.length cap∧l.length≤cap∧cap≤9223372036854775807∧(0<l.length→∃a,ao=some a)∧(∀a,ao=some a→∀i (h:i<l.length),w.cell? (a.add i)=some (.int .i64 l[i]))∧∀n∈l,-9223372036854775808≤n∧n≤9223372036854775807
theorem open_intsI {H:Type} {enc:TypeId×Value→H} {w:World} {base:Nat} {held:Bool} {v:Value} {d:DataW H} {p:List MemPlace} {r:Reach} {b0:Nat} (hval:Value.okWide Tryz.prog w r b0 67 v) (h:DataW.Trod enc Tryz.prog w base (fun _=>true) held 67 v d p):∃l:List Int,IntsI w v l:=by
 obtain⟨a,len,cap,rfl⟩:=Go.WideShapes.okWide_slice Tryz.underlying67 hval
 obtain⟨fuel,hf⟩:=h
 replace hf:DataW.trod enc Tryz.prog w base (fun _=>true) held fuel 67 [.slice a len cap]=some (d,p):=hf
 rcases Go.ChangeShapes.open_ints Tryz.underlying67 Tryz.underlying3 (by kernel_rfl) hf with ⟨h0,_⟩|⟨a,len,cap,zs,hcs,hb,hl,hm,hz,hx,hcell,hw⟩
 · simp at h0
   obtain⟨rfl,rfl,rfl⟩:=h0
   exact⟨[],none,0,rfl,by simp,by omega,fun h=>absurd h (by simp),fun a ha=>absurd ha (by simp),fun n hn=>absurd hn (by simp)⟩
 · simp at hcs
   obtain⟨rfl,rfl,rfl⟩:=hcs
   have hz:zs.length=cap:=by simpa using hz
   refine⟨zs.take len,some a,cap,by rw[List.length_take,Nat.min_eq_left (by omega)],by rw[List.length_take];omega,by simpa[maxLen] using hm,fun _=>⟨a,rfl⟩,fun b hb i hi=> ?_,fun n hn=> ?_⟩
   · cases hb
     have hi2:i<zs.length:=by rw[List.length_take] at hi;omega
     rw[hcell i hi2,List.getElem_take]
     simp[List.getD,List.getElem?_eq_getElem hi2]
   · have:=hw n (List.mem_of_mem_take hn)
     exact i64I_of this
structure Ar8 (A:Nat) (w:World) (rb:Nat) (vs:Nat→Value) (R:Nat→List UInt64) (S:List Nat):Prop where
 bx:w.heap[rb]? =some (.cells #[vs 0,vs 1,vs 2,vs 3,vs 4,vs 5,vs 6,vs 7] 82 (0,0))
 rw:∀n,n<8→w.ownsRow A 36 1 (vs n) (R n).length ((R n).map uv)
 ap:∀i j,i<8→j<8→i≠j→∀c∈oB (vs i),c∉oB (vs j)
 of:∀n,n<8→∀c∈oB (vs n),c∉S
 br:∀n,n<8→rb∉oB (vs n)
 bs:rb∉S
section
variable {A rb : Nat} {w w' : World} {vs : Nat → Value} {R : Nat → List UInt64} {S : List Nat}
theorem Ar8.ext (h:Ar8 A w rb vs R S) (k:Ext w w'):Ar8 A w' rb vs R S:=⟨k.obj h.bx,fun n hn=>k.owns (h.rw n hn),h.ap,h.of,h.br,h.bs⟩
theorem Ar8.turn (h:Ar8 A w rb vs R S) {S':List Nat} (f:Fr S w w') (hs:∀c∈S',c∈S∨w.heap.size≤c):Ar8 A w' rb vs R S':=by
 refine⟨(f.block rb (Array.getElem?_eq_some_iff.1 h.bx).1 h.bs).trans h.bx,fun n hn=>ownsRow_fr (h.rw n hn) f (fun q h1 h2=>h.of n hn q h1 h2),h.ap,fun n hn c hc hm=> ?_,h.br,fun hm=> ?_⟩
 · rcases hs c hm with k|k
   · exact h.of n hn c hc k
   · have:=row_lt2 (h.rw n hn) c hc
     omega
 · rcases hs rb hm with k|k
   · exact h.bs k
   · have:=(Array.getElem?_eq_some_iff.1 h.bx).1
     omega
theorem Ar8.at (h:Ar8 A w rb vs R S) {n:Nat} (hn:n<8):w.cell? ⟨rb,n,none⟩=some (vs n):=by
 rw[cell_of_row _ _ _ _ _ _ h.bx]
 match n,hn with
 |0,_=>rfl
 |1,_=>rfl
 |2,_=>rfl
 |3,_=>rfl
 |4,_=>rfl
 |5,_=>rfl
 |6,_=>rfl
 |7,_=>rfl
theorem Ar8.fz (h:Ar8 A w rb vs R S) (n:Nat):w.frozen? ⟨rb,n,none⟩=false:=by simp[World.frozen?,h.bx]
theorem Ar8.app (h:Ar8 A w rb vs R S) {n:Nat} (hn:n<8) {v':Value} {i:UInt64} (ho:w'.ownsRow A 36 1 v' ((R n).length+1) ((R n++[i]).map uv)) (f:Fr (oB (vs n)) w w')
 (hb:v'.ownBlock=(vs n).ownBlock∨v'.ownBlock=some w.heap.size) (hS:∀c∈S,c<w.heap.size):Ar8 A (w'.setCell ⟨rb,n,none⟩ v') rb (updN vs n v') (updN R n (R n++[i])) S:=by
 have hbx:w'.heap[rb]? =some (.cells #[vs 0,vs 1,vs 2,vs 3,vs 4,vs 5,vs 6,vs 7] 82 (0,0)):=(f.block rb (Array.getElem?_eq_some_iff.1 h.bx).1 (h.br n hn)).trans h.bx
 have hrl:=(Array.getElem?_eq_some_iff.1 h.bx).1
 have fs:Fr [rb] w' (w'.setCell ⟨rb,n,none⟩ v'):=fr_setCell _ _ _ (by simp)
 have hnew:∀c∈oB v',c∈oB (vs n)∨c=w.heap.size:=oB_new hb
 have hlt:∀m,m<8→∀c∈oB (vs m),c<w.heap.size:=fun m hm=>row_lt2 (h.rw m hm)
 have hoff:∀m,m<8→∀c∈oB (updN vs n v' m),c≠rb:=fun m hm c hc e=>by
  subst e
  unfold updN at hc
  split at hc
  · rcases hnew _ hc with k|k
    · exact h.br n hn k
    · omega
  · exact h.br m hm hc
 refine⟨?_,fun m hm=> ?_,fun i j hi hj hij c hc hm=> ?_,fun m hm c hc hs=> ?_,fun m hm hc=>hoff m hm rb hc rfl,h.bs⟩
 · rw[Go.Joins.block_setCell (i:=n) hbx v']
   match n,hn with
   |0,_=>rfl
   |1,_=>rfl
   |2,_=>rfl
   |3,_=>rfl
   |4,_=>rfl
   |5,_=>rfl
   |6,_=>rfl
   |7,_=>rfl
 · have ho2:=hoff m hm
   unfold updN at ho2⊢
   by_cases e:m=n
   · rw[if_pos e] at ho2⊢
     rw[if_pos e]
     exact ownsRow_fr (by simpa using ho) fs (fun q h1 h2=>ho2 q h1 (by simpa using h2))
   · rw[if_neg e] at ho2⊢
     rw[if_neg e]
     exact ownsRow_fr (ownsRow_fr (h.rw m hm) f (fun q h1 h2=>h.ap m n hm hn e q h1 h2)) fs (fun q h1 h2=>ho2 q h1 (by simpa using h2))
 · unfold updN at hc hm
   split at hc
   · rename_i e1
     rw[if_neg (by omega)] at hm
     rcases hnew c hc with k|k
     · exact h.ap n j hn hj (by omega) c k hm
     · have:=hlt j hj c hm;omega
   · split at hm
     · rcases hnew c hm with k|k
       · exact h.ap i n hi hn (by omega) c hc k
       · have:=hlt i hi c hc;omega
     · exact h.ap i j hi hj hij c hc hm
 · unfold updN at hc
   split at hc
   · rcases hnew c hc with k|k
     · exact h.of n hn c k hs
     · have:=hS c hs;omega
   · exact h.of m hm c hc hs
end
theorem Ar8.aft {A rb:Nat} {w w':World} {vs:Nat→Value} {R:Nat→List UInt64} {S:List Nat} (h:Ar8 A w rb vs R S) {n:Nat} (hn:n<8) (f:Fr (oB (vs n)) w w'):w'.cell? ⟨rb,n,none⟩=some (vs n)∧w'.frozen? ⟨rb,n,none⟩=false:=by
 have hbx:w'.heap[rb]? =some (.cells #[vs 0,vs 1,vs 2,vs 3,vs 4,vs 5,vs 6,vs 7] 82 (0,0)):=(f.block rb (Array.getElem?_eq_some_iff.1 h.bx).1 (h.br n hn)).trans h.bx
 refine⟨?_,by simp[World.frozen?,hbx]⟩
 rw[cell_of_row _ _ _ _ _ _ hbx]
 match n,hn with
 |0,_=>rfl
 |1,_=>rfl
 |2,_=>rfl
 |3,_=>rfl
 |4,_=>rfl
 |5,_=>rfl
 |6,_=>rfl
 |7,_=>rfl
theorem row_step {B A rb cb p n:Nat} {w0 w w':World} {x:XP} {q:QR} {vs:Nat→Value} {R:Nat→List UInt64} {v':Value} {i:UInt64} {o:Obj} (hi:IX B w p x q) (h:Ar8 A w rb vs R (x.blk p)) (hn:n<8)
 (ho:w'.ownsRow A 36 1 v' ((R n).length+1) ((R n++[i]).map uv)) (f:Fr (oB (vs n)) w w') (hb:v'.ownBlock=(vs n).ownBlock∨v'.ownBlock=some w.heap.size) (hE:Ext w0 w) (hA:w0.heap.size≤A) (hr:w0.heap.size≤rb) (hc:w.heap[cb]? =some o) (hcA:cb<A) (hcr:cb≠rb):
 IX B (w'.setCell ⟨rb,n,none⟩ v') p x q∧Ar8 A (w'.setCell ⟨rb,n,none⟩ v') rb (updN vs n v') (updN R n (R n++[i])) (x.blk p)∧Ext w0 (w'.setCell ⟨rb,n,none⟩ v')∧(w'.setCell ⟨rb,n,none⟩ v').heap[cb]? =some o∧w.heap.size≤(w'.setCell ⟨rb,n,none⟩ v').heap.size:=by
 have fs:Fr [rb] w' (w'.setCell ⟨rb,n,none⟩ v'):=fr_setCell _ _ _ (by simp)
 have hlo:=row_lo (h.rw n hn)
 refine⟨(hi.off_fr f (h.of n hn)).off_fr fs (fun c hc hm=> ?_),h.app hn ho f hb (fun c hc=>(hi.blk_lo c hc).2),?_,?_,Nat.le_trans f.size fs.size⟩
 · rw[List.mem_singleton] at hc
   subst hc
   exact h.bs hm
 · have h1:Below w0.heap.size w w':=f.below (fun c hc=>Nat.le_trans hA (hlo c hc)) hE.size
   exact Below.trans hE (Below.trans h1 (fs.below (fun c hc=>by rw[List.mem_singleton] at hc;subst hc;exact hr) (Nat.le_trans hE.size f.size)))
 · have h1:=(f.block cb (Array.getElem?_eq_some_iff.1 hc).1 (fun hm=>by have:=hlo _ hm;omega)).trans hc
   exact(fs.block cb (Array.getElem?_eq_some_iff.1 h1).1 (by simpa using hcr)).trans h1
theorem heldR {p:Prop} (h:p∨False):p:=h.elim id False.elim
theorem id_oneR (w:World) (x:UInt64):Vec uv (w.alloc (.cells #[vU x] 36 (0,0))) (.slice (some ⟨w.heap.size,0,none⟩) 1 1) [x]:=by
 have:=id_one w 36 x
 exact this
theorem idx8 (vs:Nat→Value) {n:Nat} (hn:n<8) (w:World):(Instr.index 82 (.agg #[vs 0,vs 1,vs 2,vs 3,vs 4,vs 5,vs 6,vs 7]) (.int .i64 (n:Int))).run Tryz.prog w= .ok (vs n) w:=by
 obtain rfl|rfl|rfl|rfl|rfl|rfl|rfl|rfl:n=0∨n=1∨n=2∨n=3∨n=4∨n=5∨n=6∨n=7:=by omega
 all_goals kernel_rfl
def RwD (R:Nat→List UInt64) (j k:Nat) (r:Nat→List UInt64):Prop:=∀n,n<8→r n=if n<j then[] else if n=j then(R n).drop k else R n
theorem RwD.next {R r:Nat→List UInt64} {j k:Nat} (h:RwD R j k r):RwD R j (k+1) (updN r j ((R j).drop (k+1))):=fun n hn=>by
 unfold updN
 by_cases e:n=j
 · subst e
   rw[if_pos rfl,if_neg (Nat.lt_irrefl _),if_pos rfl]
 · rw[if_neg e,h n hn,if_neg e,if_neg e]
theorem RwD.row {R r:Nat→List UInt64} {j k:Nat} (h:RwD R j k r) (hj:j<8) (hk:k<(R j).length):r j=(R j)[k]::(R j).drop (k+1):=by
 rw[h j hj,if_neg (Nat.lt_irrefl _),if_pos rfl]
 exact List.drop_eq_getElem_cons hk
theorem RwD.up {R r:Nat→List UInt64} {j:Nat} (h:RwD R j (R j).length r):RwD R (j+1) 0 r:=fun n hn=>by
 rw[h n hn]
 by_cases e:n<j
 · rw[if_pos e,if_pos (by omega)]
 · rw[if_neg e]
   by_cases e2:n=j
   · subst e2
     rw[if_pos rfl,if_pos (by omega),List.drop_length]
   · rw[if_neg e2,if_neg (by omega)]
     split
     · rfl
     · rfl
theorem tok_one {t:UInt64} {T:Nat} (h:t.toNat=T) (hT:T≤100000) {y:UInt64} (hy:y.toNat=T+1):y=t+1:=by
 refine UInt64.toNat_inj.1 ?_
 rw[UInt64.toNat_add,show(1:UInt64).toNat=1 from rfl]
 omega
theorem row_out {lane la:Int} (h:¬(0≤lane∧lane<la)):lane<0∨la≤lane:=by omega
set_option maxHeartbeats 2000000 in
theorem indexRow_law (la pa de:Int) (v:Value) (l:List Int) (span:UInt64) (w:World) (hl:IntsI w v l) (ht:TB w):
 Calls Tryz.prog 7 #[ccV la pa de,v,vU span] w fun e w'=>e= .returned (.bool true)∧Ext w w':=by
 have HT:=hid ht
 obtain⟨ao,cap,rfl,hle,hm,hnn,hcell,hwf⟩:=hl
 have HNN:=hid hnn
 have HC:=hid hcell
 have HWF:=hid hwf
 obtain⟨W1,hW1⟩:∃W,w.alloc (ccO la pa de)=W:=⟨_,rfl⟩
 have HE1:Hid (Ext w W1):=hid (by rw[←hW1];exact Ext.alloc _ _)
 have HB1:Hid (W1.heap[w.heap.size]? =some (ccO la pa de)):=hid (by rw[←hW1];exact heap_alloc_new _ _)
 have HLB:Hid (w.heap.size<W1.heap.size):=hid (by rw[←hW1];simp)
 clear hcell hnn ht hwf
 go_enter Tryz.func7,Tryz.ntmps7
 go_wp2_with fail
 clear hW1
 obtain⟨cb,hcb⟩:∃c,w.heap.size=c:=⟨_,rfl⟩
 have HCB:Hid (w.heap.size=cb):=hid hcb
 rw[hcb] at HB1
 try rw[hcb]
 clear hcb
 refine(awake11_any W1 (TBx HT.out HE1.out)).mono ?_
 rintro e w4 ⟨rfl,hx⟩
 have HX4:Hid (Ext W1 w4):=hid hx
 have HE4:=hid (HE1.out.trans hx)
 clear hx
 obtain⟨x0,x1,x2,-⟩:=lk3 (HX4.out.obj HB1.out)
 go_wp2_with fail
 clear x0 x1 x2
 refine(inew_any la pa de (TBx HT.out HE4.out)).mono ?_
 rintro e w5 ⟨hn,hx⟩
 have HE5:=hid (HE4.out.trans hx)
 have HCX5:Hid (w5.heap[cb]? =some (ccO la pa de)):=hid (hx.obj (HX4.out.obj HB1.out))
 clear hx
 obtain⟨rc,hrc⟩:∃b,rightC la pa de=b:=⟨_,rfl⟩
 rw[hrc] at hn
 clear hrc
 cases rc
 case false=>
  rw[if_neg (by simp)] at hn
  subst hn
  go_wp2
  go_returns
  exact⟨rfl,HE5.out⟩
 rw[if_pos rfl] at hn
 obtain⟨p,x,q,rfl,hI,hM⟩:=hn
 obtain⟨B,hB⟩:∃B,W1.heap.size=B:=⟨_,rfl⟩
 have hI0:=hI.lower HX4.out.size
 rw[hB] at hI0 HLB
 have HLBx:Hid (cb<B∧w.heap.size≤B):=hid (by rw[←HCB.out];exact⟨HLB.out,Nat.le_of_lt HLB.out⟩)
 have HI5:Hid (IX B w5 p x q):=hid hI0
 have HR5:=hid (RwS.start hM)
 have HR0:=hid (RwS.rows0 hM)
 clear hI hM hI0 hB HX4 HE4 HE1 HB1 HLB
 by_cases h1:100<l.length
 · have hd1:decide ((100:Int)<(l.length:Int))=true:=by simp;omega
   clear h1
   go_wp2
   go_returns
   exact⟨rfl,HE5.out⟩
 have hd1:decide ((100:Int)<(l.length:Int))=false:=by simp;omega
 have HL:=hid h1
 clear h1
 by_cases h3:span=0
 · subst h3
   go_wp2
   go_returns
   exact⟨rfl,HE5.out⟩
 have HS0:=hid h3
 have hd3:(((span.toNat:Nat):Int)==(0:Int))=false:=by
  refine beq_eq_false_iff_ne.2 fun e=>h3 (UInt64.toNat_inj.1 ?_)
  show span.toNat=0
  omega
 clear h3
 obtain⟨w6,hw6⟩:∃W,w5.alloc (.cells #[.slice none 0 0,.slice none 0 0,.slice none 0 0,.slice none 0 0,.slice none 0 0,.slice none 0 0,.slice none 0 0,.slice none 0 0] 82 (0,0))=W:=⟨_,rfl⟩
 have e6:Ext w5 w6:=by rw[←hw6];exact Ext.alloc _ _
 have HI6:=hid (HI5.out.ext e6)
 have HE6:=hid (HE5.out.trans e6)
 have HCX6:=hid (e6.obj HCX5.out)
 have HA6:Hid (Ar8 w6.heap.size w6 w5.heap.size (fun _=> .slice none 0 0) q.rows (x.blk p)):=hid ⟨by rw[←hw6];exact heap_alloc_new _ _,fun n hn=>by rw[HR0.out n hn];exact World.ownsRow_nil _ _ _ _,fun i j _ _ _ c hc=>by simp[oB,Value.ownBlock] at hc,fun n _ c hc=>by simp[oB,Value.ownBlock] at hc,fun n _ hc=>by simp[oB,Value.ownBlock] at hc,fun hm=>by have:=(HI5.out.blk_lo _ hm).2;omega⟩
 have HE5S:Hid (w.heap.size<w5.heap.size∧w5.heap.size<w6.heap.size):=hid ⟨by have:=(Array.getElem?_eq_some_iff.1 HCX5.out).1;have:=HCB.out;omega,by rw[←hw6];simp⟩
 clear e6 HI5 HE5 HCX5 HR0
 go_wp2
 clear hd1 hd3
 obtain⟨rb,hrb⟩:∃b,w5.heap.size=b:=⟨_,rfl⟩
 rw[hrb] at HA6 HE5S
 try rw[hrb]
 clear hrb hw6
 obtain⟨A,hA⟩:∃b,w6.heap.size=b:=⟨_,rfl⟩
 rw[hA] at HA6
 have HAS:Hid (w.heap.size≤A):=hid (by rw[←hA];exact HE6.out.size)
 have HAL:Hid (A≤w6.heap.size):=hid (by rw[←hA];exact Nat.le_refl _)
 have HRB:Hid (w.heap.size≤rb∧cb<A∧cb≠rb):=hid (by have h1:=HE5S.out;have h2:=HCB.out;omega)
 clear hA
 go_loopw [45] (fun i wr=>∃(k:Nat) (x:XP) (q:QR) (c:Nat) (vs:Nat→Value),k≤l.length∧i= .int .i64 (k:Int)∧Hid (IX B wr p x q)∧Hid (RwS (300*k) c 0 la pa de q∧c≤k)∧Hid (Ar8 A wr rb vs q.rows (x.blk p))∧Hid (Ext w wr)∧Hid (wr.heap[cb]? =some (ccO la pa de))∧Hid (A≤wr.heap.size)) (fun i _=>l.length - (intOf i).toNat)
 case atStart=>exact⟨0,x,q,0,_,Nat.zero_le _,rfl,HI6,hid ⟨HR5.out,Nat.le_refl _⟩,HA6,HE6,HCX6,HAL⟩
 case round=>
  clear HI6 HR5 HA6 HE6 HCX6 HAL x q
  obtain⟨k,x,q,c,vs,hk,rfl,HI,HR,HA,HE,HCX,HAL⟩:=hrel
  by_cases hlt:k<l.length
  · have hi1:decide ((k:Int)<(l.length:Int))=true:=by simp;omega
    obtain⟨a,rfl⟩:=HNN.out (by omega)
    have hce:=HE.out.cell (HC.out a rfl k hlt)
    obtain⟨n,hnk⟩:∃n,l[k]=n:=⟨_,rfl⟩
    have hwn:=HWF.out l[k] (List.getElem_mem hlt)
    rw[hnk] at hce hwn
    have HKL:=hid hlt
    have hcp:=put_any11 n 0 0 0 0 HI.out HI.out.bs HR.out.1.xq.wi.wq
    have hxp:=xq_of (a:=⟨0,n,0,0,0,[],0,0,0⟩) (k:= .a0) HR.out.1.xq (by have:=HKL.out;have:=HL.out;omega) (by unfold kindI;simp) (by rw[actB0])
    dsimp only at hxp
    by_cases hin:0≤n∧n<la
    · obtain⟨i,p1,p2,p3,p4⟩:=HR.out.1.put (by have:=HR.out.2;have:=HKL.out;have:=HL.out;omega) hin.1 hin.2 hxp
      obtain⟨R,hR⟩:∃R,putQ q n 0 0 0 0=R:=⟨_,rfl⟩
      rw[hR] at hcp p1 p2 p3 p4
      obtain⟨R1,R2,q6⟩:=R
      dsimp only at p1 p2 p3 p4
      subst p1 p2
      have HP3:=hid p3
      have HP4:=hid p4
      have HIN:=hid hin
      have hd1:decide (n<(0:Int))=false:=by simp;omega
      have hd2:decide (la≤n)=false:=by simp;omega
      have HCP:=hid hcp
      clear hR hxp hcp p3 p4 hnk hlt hk hin hwn
      go_wp2_with fail
      clear hi1 hce
      refine HCP.out.mono ?_
      rintro e w7 ⟨rfl,⟨x7,i7,f7,n7⟩⟩
      have HI7:=hid i7
      have HA7:=hid (HA.out.turn f7 n7)
      have HE7:Hid (Ext w w7):=hid (Below.trans HE.out (f7.below (fun a ha=>Nat.le_trans HLBx.out.2 (HI.out.blo a ha)) HE.out.size))
      have HCX7:Hid (w7.heap[cb]? =some (ccO la pa de)):=hid ((f7.block cb (Array.getElem?_eq_some_iff.1 HCX.out).1 (fun hm=>by have:=HI.out.blo _ hm;have:=HLBx.out.1;omega)).trans HCX.out)
      have HAL7:=hid (Nat.le_trans HAL.out f7.size)
      obtain⟨m,hm8⟩:∃m:Nat,n=(m:Int):=⟨n.toNat,by have:=HIN.out.1;omega⟩
      subst hm8
      have hm8:m<8:=by
       have h1:=HP3.out.xq.wi.wq.cf
       have h2:=HP3.out.la
       have h3:=HIN.out.2
       omega
      have HM:=hid hm8
      have hrows:q6.rows=updN q.rows m (q.rows m++[R1]):=by have:=HP4.out;rwa[Int.toNat_natCast] at this
      have HROW:=hid hrows
      obtain⟨x0,x1,x2,-⟩:=lk3 HCX7.out
      have hc8:=HA7.out.at hm8
      have hz8:=HA7.out.fz m
      have HOW:=hid (HA7.out.rw m hm8)
      have HSL1:=hid (id_oneR w7 R1)
      have hn5:(q.rows m).length≤200:=(HP3.out.xq.wi.wq.rowlen hm8).1|>fun h=>by
       rw[HROW.out] at h
       unfold updN at h
       rw[if_pos rfl,List.length_append] at h
       omega
      obtain⟨vm,hvm⟩:∃v,vs m=v:=⟨_,rfl⟩
      have HVM:=hid hvm
      rw[hvm] at hc8 HOW
      clear f7 n7 i7 HI HA HE HCX HAL hrows HP4 HCP hvm
      go_wp2_with (at_builtin;refine heldR ?_)
      refine Or.inl ?_
      refine wpList_append_ids_at rfl (.tmp 71) (.tmp 73) 47 rfl A 36 Tryz.underlying47 infoU64 rfl ((Ext.alloc w7 _).owns HOW.out) rfl HSL1.out ((q.rows m).length+1) rfl (by omega) (by have:=HAL7.out;simp;omega) ?_
      intro ao3 cap3 w9 hO3 hf3 hb3
      rw[←HVM.out] at hf3 hb3
      obtain⟨k1,k2⟩:=(HA7.out.ext (Ext.alloc w7 _)).aft HM.out hf3
      have HST:=hid (row_step (HI7.out.ext (Ext.alloc w7 _)) (HA7.out.ext (Ext.alloc w7 _)) HM.out hO3 hf3 hb3 (HE7.out.trans (Ext.alloc w7 _)) HAS.out HRB.out.1 ((Ext.alloc w7 _).obj HCX7.out) HRB.out.2.1 HRB.out.2.2)
      rw[HVM.out] at k1
      clear hO3 hf3 hb3
      go_wp2
      go_roundw
      case rel=>exact⟨k+1,x7,q6,c+1,_,HKL.out,by go_num,hid HST.out.1,hid ⟨HP3.out.mono (by omega),by have:=HR.out.2;omega⟩,hid (by rw[HROW.out];exact HST.out.2.1),hid HST.out.2.2.1,hid HST.out.2.2.2.1,hid (by have h1:=HST.out.2.2.2.2;have h2:=HAL7.out;rw[World.size_alloc] at h1;omega)⟩
      case measure=>simp[intOf];have:=HKL.out;omega
    · have hout:=row_out hin
      rw[HR.out.1.put0 hout] at hcp
      have HCP:=hid hcp
      have HOUT:=hid hout
      clear hxp hcp hnk hlt hk hin hwn hout
      go_wp2_with fail
      clear hi1 hce
      refine HCP.out.mono ?_
      rintro e w7 ⟨rfl,⟨x7,i7,f7,n7⟩⟩
      have HI7:=hid i7
      have HA7:=hid (HA.out.turn f7 n7)
      have HE7:Hid (Ext w w7):=hid (Below.trans HE.out (f7.below (fun a ha=>Nat.le_trans HLBx.out.2 (HI.out.blo a ha)) HE.out.size))
      have HCX7:Hid (w7.heap[cb]? =some (ccO la pa de)):=hid ((f7.block cb (Array.getElem?_eq_some_iff.1 HCX.out).1 (fun hm=>by have:=HI.out.blo _ hm;have:=HLBx.out.1;omega)).trans HCX.out)
      have HAL7:=hid (Nat.le_trans HAL.out f7.size)
      obtain⟨x0,x1,x2,-⟩:=lk3 HCX7.out
      clear f7 n7 i7 HI HA HE HCX HAL HCP
      cases hd1:decide (n<(0:Int))
      case false=>
       have hd2:decide (la≤n)=true:=by have:=HOUT.out;simp at hd1⊢;omega
       go_wp2
       go_roundw
       case rel=>exact⟨k+1,x7,q,c,vs,HKL.out,by go_num,HI7,hid ⟨HR.out.1.mono (by omega),by have:=HR.out.2;omega⟩,HA7,HE7,HCX7,HAL7⟩
       case measure=>simp[intOf];have:=HKL.out;omega
      case true=>
       go_wp2
       go_roundw
       case rel=>exact⟨k+1,x7,q,c,vs,HKL.out,by go_num,HI7,hid ⟨HR.out.1.mono (by omega),by have:=HR.out.2;omega⟩,HA7,HE7,HCX7,HAL7⟩
       case measure=>simp[intOf];have:=HKL.out;omega
  · have hki:decide (k<l.length)=false:=by simp;omega
    have HKL:Hid (300*k≤30000∧c≤100):=hid (by have:=HL.out;have:=HR.out.2;omega)
    obtain⟨R,hR⟩:∃R,q.rows=R:=⟨_,rfl⟩
    have HROW0:=hid hR
    rw[hR] at HA
    have HRS:Hid (∀n,n<8→(R n).length≤200):=hid (by rw[←hR];exact fun n hn=>(HR.out.1.xq.wi.wq.rowlen hn).1)
    have HRT:Hid (∀n,n<8→∃o c,vs n= .slice o (R n).length c):=hid (fun n hn=>row_shape (HA.out.rw n hn))
    obtain⟨x0,x1,x2,x3,x4,x5,x6,x7,-⟩:=blk8 HA.out.bx
    have HR1:Hid (RwS 30000 c 0 la pa de q):=hid (HR.out.1.mono (by have:=HKL.out;omega))
    clear hk hlt hR HR
    go_wp2
    clear hki x0 x1 x2 x3 x4 x5 x6 x7
    have HD0:Hid (RwD R 0 0 q.rows):=hid (fun n hn=>by rw[HROW0.out,if_neg (by omega)];split<;>rfl)
    clear HROW0 HCX HAL HKL
    go_loopw [14,78] (fun t i wr=>∃(j T:Nat) (tk:UInt64) (x:XP) (q:QR),j≤8∧t=vU tk∧i= .int .i64 (j:Int)∧Hid (tk.toNat=T∧T≤200*j)∧Hid (IX B wr p x q)∧Hid (RwS (30000+300*T) c T la pa de q)∧Hid (RwD R j 0 q.rows)∧Hid (Ar8 A wr rb vs R (x.blk p))∧Hid (Ext w wr)) (fun _ i _=>8 - (intOf i).toNat)
    case atStart=>exact⟨0,0,0,x,q,by decide,rfl,rfl,hid ⟨rfl,Nat.le_refl _⟩,HI,HR1,HD0,HA,HE⟩
    case round=>
     clear HI HR1 HD0 HA HE x q
     obtain⟨j,T,tk,x,q,hj,rfl,rfl,HTK,HI,HR,HD,HA,HE⟩:=hrel
     by_cases hlt:j<8
     · have hi1:decide ((j:Int)<8)=true:=by simp;omega
       have HJ:=hid hlt
       obtain⟨o,cc,hv⟩:=HRT.out j hlt
       have HV:=hid hv
       have hix:=fun W=>idx8 vs hlt W
       rw[hv] at hix
       have hlen:=HRS.out j hlt
       have HLEN:=hid hlen
       clear hlt hj hv
       go_wp2
       clear hi1 hix
       go_loopw [14,83] (fun t i wr=>∃(k T:Nat) (tk:UInt64) (x:XP) (q:QR),k≤(R j).length∧t=vU tk∧i= .int .i64 (k:Int)∧Hid (tk.toNat=T∧T≤200*j+k)∧Hid (IX B wr p x q)∧Hid (RwS (30000+300*T) c T la pa de q)∧Hid (RwD R j k q.rows)∧Hid (Ar8 A wr rb vs R (x.blk p))∧Hid (Ext w wr)) (fun _ i _=>(R j).length - (intOf i).toNat)
       case atStart=>exact⟨0,T,tk,x,q,Nat.zero_le _,rfl,rfl,hid (by have:=HTK.out;omega),HI,HR,HD,HA,HE⟩
       case round=>
        clear HTK HI HR HD HA HE hlen
        obtain⟨k,T,tk,x,q,hk,rfl,rfl,HTK,HI,HR,HD,HA,HE⟩:=hrel
        by_cases hlt:k<(R j).length
        · have hi1:decide ((k:Int)<((R j).length:Int))=true:=by simp;omega
          have HK:=hid hlt
          have hrw:=HA.out.rw j HJ.out
          rw[HV.out] at hrw
          obtain⟨hlc,-,hon,hce⟩:=Sl.cells (Sl.of_owns hrw)
          obtain⟨a,rfl⟩:∃a,o=some a:=by
           cases o with
           |none=>have:=hon rfl;omega
           |some a=>exact⟨a,rfl⟩
          have hc1:=hce a rfl k (uv (R j)[k]) (by rw[List.getElem?_map,List.getElem?_eq_getElem hlt];rfl)
          have hrow:=HD.out.row HJ.out hlt
          obtain⟨id,hid0⟩:∃i,(R j)[k]=i:=⟨_,rfl⟩
          replace hrow:q.rows j=id::(R j).drop (k+1):=by rw[←hid0];exact hrow
          replace hc1:wr.cell? (a.add k)=some (vU id):=by rw[←hid0];exact hc1
          have hkb:k≤200:=by have:=HLEN.out;omega
          clear hlc
          have hT2:T≤2000:=by have:=HTK.out;have:=HJ.out;have:=HLEN.out;omega
          have hxp:=xq_of (a:=⟨1,-1,0,0,span,[],0,0,0⟩) (k:= .a1) HR.out.xq (by omega) (by unfold kindI;simp) (by rw[actB1])
          dsimp only at hxp
          obtain⟨z,y,p1,p2,p3,p4,p5,p6,p7,p8,p9,p10,p11⟩:=HR.out.lease HJ.out hrow (fun m hm=>by have h9:=HJ.out;rw[HD.out m (by omega),if_pos hm]) HS0.out (by omega) hxp
          have hpk:=peek_any (-1) HI.out HR.out.xq.wi.wq
          rw[p1] at hpk
          have hle:=fun W (hW:Ext wr W)=>lease_any11 (-1) span (HI.out.ext hW) (HI.out.ext hW).bs HR.out.xq.wi.wq (by have:=HR.out.le;omega)
          obtain⟨L,hL⟩:∃L,leaseQ q (-1) span=L:=⟨_,rfl⟩
          rw[hL] at hle p3 p4 p10 p11
          obtain⟨L1,L2,q9⟩:=L
          dsimp only at p3 p4 p10 p11
          subst p3 p4
          have p9b:=tok_one HTK.out.1 (by omega) p9
          obtain⟨zi,zl,zs,zc,zd,zt,zu,zg,zp,zz⟩:=z
          obtain⟨yi,yl,ys,yc,yd,yt,yu,yg,yp,yz⟩:=L1
          dsimp only at p2 p5 p6 p7 p8 p9 p9b
          subst p2 p5 p6 p7 p8 p9b
          have HLE:=hid hle
          have HP10:=hid p10
          have HP11:=hid p11
          have HT2:=hid hT2
          have HD9:=HD
          clear hle p1 p9 p10 p11 hxp hrow hL hrw hon hce hlt hk hid0 hT2
          go_wp2_with fail
          clear hc1 hi1
          refine hpk.mono ?_
          clear hpk
          rintro e w7 ⟨rfl,hx⟩
          obtain⟨w8,hw8⟩:∃W,w7.alloc (itO ⟨yi,zl,zs,zc,zd,zt,zu,zg,zp,zz⟩)=W:=⟨_,rfl⟩
          have e8:Ext w7 w8:=by rw[←hw8];exact Ext.alloc _ _
          have HB8:Hid (w8.heap[w7.heap.size]? =some (itO ⟨yi,zl,zs,zc,zd,zt,zu,zg,zp,zz⟩)):=hid (by rw[←hw8];exact heap_alloc_new _ _)
          have HX8:=hid (hx.trans e8)
          have HLO:Hid (∀a∈x.blk p,a<w7.heap.size):=hid (fun a ha=>(HI.out.ext hx).blk_lo a ha|>.2)
          have HLS:=hid (HLE.out w8 (hx.trans e8))
          clear hx e8 HLE
          go_wp2_with fail
          clear hw8
          refine HLS.out.mono ?_
          rintro e w9 ⟨rfl,⟨x9,i9,f9,n9⟩⟩
          have HI9:=hid i9
          have HA9:=hid ((HA.out.ext HX8.out).turn f9 n9)
          have HE9:Hid (Ext w w9):=hid (Below.trans (HE.out.trans HX8.out) (f9.below (fun a ha=>Nat.le_trans HLBx.out.2 (HI.out.blo a ha)) (HE.out.trans HX8.out).size))
          have hb9:=(f9.block w7.heap.size (Array.getElem?_eq_some_iff.1 HB8.out).1 (fun hm=>by have:=HLO.out _ hm;omega)).trans HB8.out
          have d0:=fun o=>(Ext.alloc w9 o).cell (blk10 hb9).1
          have hadd:=u64_add1 tk
          clear i9 f9 n9 hb9 HB8 HLO HLS HI HA HE HX8 HR HD
          go_wp2_with fail
          go_roundw
          case rel=>exact⟨k+1,T+1,tk+1,x9,q9,HK.out,rfl,by go_num,hid ⟨by have h1:=HTK.out.1;have h2:=HT2.out;rw[UInt64.toNat_add,show(1:UInt64).toNat=1 from rfl];omega,by have:=HTK.out.2;omega⟩,hid (HI9.out.ext (Ext.alloc _ _)),hid (HP10.out.mono (by omega)),hid (by rw[HP11.out];exact HD9.out.next),hid (HA9.out.ext (Ext.alloc _ _)),hid (HE9.out.trans (Ext.alloc _ _))⟩
          case measure=>simp[intOf];have:=HK.out;omega
        · obtain rfl:k=(R j).length:=by omega
          have hki:decide ((R j).length<(R j).length)=false:=by simp
          have HD2:=hid HD.out.up
          have HTK2:Hid (tk.toNat=T∧T≤200*(j+1)):=hid (by have:=HTK.out;have:=HLEN.out;omega)
          clear hk hlt
          have hjb:j<8:=HJ.out
          go_wp2
          go_roundw
          case rel=>exact⟨j+1,T,tk,x,q,HJ.out,rfl,by go_num,HTK2,HI,HR,HD2,HA,HE⟩
          case measure=>simp[intOf];have:=HJ.out;omega
     · obtain rfl:j=8:=by omega
       have hT2:T≤2000:=by have:=HTK.out;omega
       have hn:=HR.out.peekN (fun m hm=>by rw[HD.out m hm,if_pos hm])
       have hle:=lease_any11 (-1) span HI.out HI.out.bs HR.out.xq.wi.wq (by have:=HR.out.le;omega)
       have e0:leaseQ q (-1) span=(it0,11,q):=by
        unfold leaseQ
        rw[if_neg HS0.out,hn,if_pos (by simp)]
       rw[e0] at hle
       have HLE:=hid hle
       clear hle e0 hn hlt hj hT2
       go_wp2_with fail
       refine HLE.out.mono ?_
       rintro e w9 ⟨rfl,⟨x9,i9,f9,n9⟩⟩
       have HE9:Hid (Ext w w9):=hid (Below.trans HE.out (f9.below (fun a ha=>Nat.le_trans HLBx.out.2 (HI.out.blo a ha)) HE.out.size))
       clear i9 f9 n9 HLE HI HE
       go_wp2
       go_returns
       exact⟨rfl,HE9.out.trans (Ext.alloc _ _)⟩
end Go.Proofs.YtcfgafododiioaaGreatDoor
namespace Go.Proofs.YtcfgafododiioaaGreatDoor.indexRow
open Go.ChangeShapes Go.WideShapes Go.ChangeAt Go.RowKit
open Go.ChangeMaps (open_string shut_string)
theorem own:ownKnob Tryz.prog.godebug=none:=by kernel_rfl
theorem kid1:laidOutB Tryz.prog=true:=by kernel_rfl
theorem kid2:mapsRowed Tryz.prog=true:=by kernel_rfl
theorem kid3:((List.range Tryz.prog.types.size).all fun t=>match Tryz.prog.underlying t with|some (.slice e)=>decide (0<Tryz.prog.cellsOf e)|_=>true)=true:=by kernel_rfl
theorem kid4:∀t∈Tryz.f7.params.toList,t<Tryz.prog.types.size:=by decide+kernel
theorem firstIs:Go.Pinned.utf8First=Lib.firstData:=by kernel_rfl
theorem acceptIs:(Rows.laid_unicode_utf8_acceptRanges:DataW Unit)=Lib.acceptData:=by kernel_rfl
theorem table {W:World} (h:laidMetH Tryz.prog Rows.indexRowRow.laid W):TB W:=by
 have h' : laidMet Tryz.prog [("unicode/utf8.acceptRanges", Lib.acceptData), ("unicode/utf8.first", Lib.firstData)] W := by
  rw[←acceptIs,←firstIs]
  exact h
 exact utf8Tabs_of_reads (ρ:=Tryz.lays230_ren) {Tryz.lays230 with} ⟨by kernel_rfl,by kernel_rfl,by kernel_rfl,by kernel_rfl,by kernel_rfl,by kernel_rfl,by kernel_rfl⟩ (Lib.laidMet.reads h' (.tail _ (.head _))) (Lib.laidMet.reads h' (.head _))
set_option maxRecDepth 100000 in
theorem contract (H:Type) (enc:TypeId×Value→H) (W:World) (base:Nat) (args:Array Value) (ds gs:List (DataW H)) (before:List MemPlace)
 (hval:∀(j:Nat) t v,Tryz.f7.params[j]? =some t→args[j]? =some v→Value.okWide Tryz.prog W .any base t v)
 (hW:DataW.Whole enc Tryz.prog Tryz.f7.params.toList Rows.indexRowSpec.vars false W args.toList ds gs before) (hL:laidMetH Tryz.prog Rows.indexRowRow.laid W):
 Calls Tryz.prog 7 args W fun e W'=>∃v,e= .returned v∧Rows.indexRowSpec.post enc Tryz.prog Tryz.f7 false true false false W args v W':=by
 have hW':=hW
 obtain⟨p,q,hA0,hV,rfl,hfz,hnd⟩:=hW
 have hA:DataW.TrodAll enc Tryz.prog W 0 (fun _=>true) true Tryz.f7.params.toList args.toList ds p:=hA0
 rw[Tryz.params7] at hA hval
 obtain⟨v0,vs0,d0,ds0,p0,q0,hargs,rfl,rfl,h0,r0⟩:=trodAll_cons hA
 obtain⟨v1,vs1,d1,ds1,p1,q1,rfl,rfl,rfl,h1,r1⟩:=trodAll_cons r0
 obtain⟨v2,vs2,d2,ds2,p2,q2,rfl,rfl,rfl,h2,r2⟩:=trodAll_cons r1
 obtain⟨rfl,rfl,rfl⟩:=trodAll_nil r2
 obtain rfl:args= #[v0,v1,v2]:=by cases args;simp_all
 obtain⟨rfl,rfl⟩:=trodVars_none hV
 obtain⟨la,pa,de,rfl⟩:=open_conf (hval 0 23 v0 rfl rfl) h0
 obtain⟨l1,hl1⟩:=open_intsI (hval 1 67 v1 rfl rfl) h1
 obtain⟨a2,rfl,rfl,rfl,w2⟩:=open_int Tryz.underlying36 (hval 2 36 v2 rfl rfl) h2
 obtain⟨u2,rfl⟩:=Go.Tum.u64_of w2
 refine(indexRow_law la pa de v1 l1 u2 W hl1 (table hL)).mono fun e W' ⟨he,hg⟩=> ?_
 subst he
 exact⟨_,rfl,Go.Tum.law_post kid1 kid2 kid3 kid4 rfl Tryz.underlying4 hW' rfl rfl hg⟩
noncomputable def laidWorld (os:Os):World:=
 let w0:=World.holding Tryz.prog os ⟨#[],#[],[]⟩
 let put (h:Array Obj) (g:Nat) (cs:Array Value):Array Obj:=h.modify g fun
  | .cells _ t frozen=> .cells cs t frozen
  |o=>o
 {w0 with heap:=put (put w0.heap 0 (Lib.firstTab.map fun z=>Value.int .u8 z).toArray) 1 ((List.range 16).flatMap fun i=>[Value.int .u8 (Lib.accLo i),Value.int .u8 (Lib.accHi i)]).toArray}
theorem laid_met (os:Os):laidMet Tryz.prog Rows.indexRowRow.laid ((laidWorld os).forCall (fun _ _=>0) ⟨#[],#[.agg #[.int .i64 0,.int .i64 0,.int .i64 0],.slice none 0 0,.int .u64 0],[]⟩).memory:=
 laidMet_of_run3 10 (by kernel_rfl) (by kernel_rfl) (by kernel_rfl)
theorem reads (os:Os) {H:Type} (enc:TypeId×Value→H):∃places,DataW.whole enc Tryz.prog ((laidWorld os).forCall (fun _ _=>0) ⟨#[],#[.agg #[.int .i64 0,.int .i64 0,.int .i64 0],.slice none 0 0,.int .u64 0],[]⟩).memory Tryz.f7.params.toList Rows.indexRowSpec.vars false #[Value.agg #[.int .i64 0,.int .i64 0,.int .i64 0],.slice none 0 0,.int .u64 0].toList 8=some ([.agg [.lit (.int .i64 0),.lit (.int .i64 0),.lit (.int .i64 0)],.nil,.lit (.int .u64 0)],[],places):=
 ⟨[],by kernel_rfl⟩
set_option maxRecDepth 100000 in
theorem lifted (os:Os) (started:os.Started) (H:Type) (enc:TypeId×Value→H) (F:Stop.Interp):
 ReturnsInHanded {} Tryz.checked os 7 .any ((OpenSpec.ofChange Rows.indexRowSpec).preRow enc Tryz.prog Tryz.f7 Rows.indexRowRow.domain false Rows.indexRowRow.laid) (((OpenSpec.ofChange Rows.indexRowSpec).at F).post enc Tryz.prog Tryz.f7 false true false false):=by
 obtain⟨places,hx⟩:=reads os enc
 refine returnsInHanded_of_row (C:=Tryz.checked) (s:=OpenSpec.ofChange Rows.indexRowSpec) own started (by kernel_rfl) Tryz.func7
  (witness_row_at (enc:=enc) (C:=Tryz.checked) false (laidWorld os) #[.agg #[.int .i64 0,.int .i64 0,.int .i64 0],.slice none 0 0,.int .u64 0] rfl (by kernel_rfl) (by kernel_rfl) (by kernel_rfl)
   (OpenSpec.preRow_of_cond 8 hx (by kernel_rfl) (fun k hk=>by cases hk) (by kernel_rfl) (laid_met os))) ?_
 intro W base args ds gs before hval hW _ _ _ hL _ _
 exact contract H enc W base args ds gs before hval hW hL
theorem said:Rows.IndexRowSaid:=
 OpenClaim.holds_of_cond 7 Tryz.f7 rfl rfl rfl rfl rfl rfl rfl ⟨rfl,rfl,rfl,rfl,rfl⟩ rfl rfl rfl rfl rfl (by kernel_rfl) Tryz.func7 (by kernel_rfl)
  (of_decide_eq_true (by kernel_rfl)) (by unfold Func.isWrapper;first|(rw[if_pos (by decide+kernel)];kernel_rfl)|(rw[if_neg (by decide+kernel)];exact⟨rfl,rfl⟩))
  (fun os started H enc _ F=>by rw[OpenClaim.pre_eq_preRow];exact lifted os started H enc F)
theorem plain (f : FuncId) (fn : Func) (hf : Tryz.pinned.checked.prog.funcNamed "tumbrel/tumbrellaw11.IndexRow" = some f) (hfn : Tryz.pinned.checked.prog.funcs[f]? = some fn) :
 false=Tryz.pinned.checked.prog.looks []∧∀(j:Nat) t,fn.params[j]? =some t→Tryz.pinned.checked.prog.wantsStandIn t=false:=by
 obtain rfl : f = 7 := Option.some.inj ((show Tryz.prog.funcNamed "tumbrel/tumbrellaw11.IndexRow" = some 7 by kernel_rfl).symm.trans hf) |>.symm
 obtain rfl:fn=Tryz.f7:=(Option.some.inj (Tryz.func7.symm.trans hfn)).symm
 refine⟨by kernel_rfl,fun j t ht=> ?_⟩
 rw[Tryz.params7] at ht
 have hm:=Array.mem_of_getElem? ht
 have hall:∀t∈Tryz.f7.params.toList,Tryz.prog.wantsStandIn t=false:=by decide+kernel
 rw[Tryz.params7] at hall
 exact hall t (by simpa using hm)
theorem proved:Rows.IndexRowCardSaid:=
 Claim7.holds_tied_plain_at .later [] _ _ _ _ said (fun _ h=>by cases h) (by kernel_rfl) (fun _ h=>by cases h) indexRow_row_tie rfl ⟨rfl,rfl⟩ (by kernel_rfl) rfl plain (by kernel_rfl)
end Go.Proofs.YtcfgafododiioaaGreatDoor.indexRow
