/- For every input the law IndexAgain returns true and leaves what was there as it was; no condition but the sizes of the row. -/
import Derived.Test.YtcfgafododiioaaGreatDoorC45
import Derived.Test.YtcfgafododiioaaGreatDoorC44
import Derived.Test.YtcfgafododiioaaGreatDoorC33
import Derived.Test.YtcfgafododiioaaGreatDoorC11
import Derived.Laws.Rows
import Derived.Laws.Tables
import Derived.Test.YtcfgafododiioaaGreatDoorCards
import Derived.Test.YtcfgafododiioaaGreatDoorTie
import Derived.WalkKit
import Derived.ProofKit
import Derived.OpenShut
import Derived.Below
import Derived.Deep.DeepHandedRow
import Derived.SizedLaws
import Derived.Lib.LaidU8
import Derived.Deep.DeepLaidRun
import Derived.ShutString
import Derived.Test.YtcfgafododiioaaGreatDoorC1
import Derived.Lib.SmallJoins
set_option linter.unusedSimpArgs false
set_option linter.unusedVariables false
set_option maxRecDepth 100000
namespace Go.Proofs.YtcfgafododiioaaGreatDoor
open Go Go.RowKit Go.Tum Go.ChangeMaps Go.Sort
open Go.ParB (upd Lof)
open Go.ParE (putS slotsR slots Closed)
set_option maxHeartbeats 2000000 in
theorem isame_eq {w:World} {a:An} {u v:Value} (hu:Vec uv w u a.ids) (hv:Vec uv w v a.ids):
 Calls Tryz.prog 18 #[anV a u,anV a v] w fun e w'=>e= .returned (.bool true)∧Ext w w':=by
 obtain⟨E,Id,⟨id,la,st,ct,du,tk,tu,sg,ps,sz⟩,Many,Is,Ids⟩:=a
 obtain⟨W1,hW1⟩:∃W,w.alloc (.cells #[.int .i64 E,vU Id,vU id,.int .i64 la,.int .i64 st,.int .i64 ct,vU du,vU tk,vU tu,vU sg,vU ps,.int .i64 sz,.int .i64 Many,.bool Is,u] 49 (0,0))=W:=⟨_,rfl⟩
 obtain⟨W2,hW2⟩:∃W,W1.alloc (.cells #[.int .i64 E,vU Id,vU id,.int .i64 la,.int .i64 st,.int .i64 ct,vU du,vU tk,vU tu,vU sg,vU ps,.int .i64 sz,.int .i64 Many,.bool Is,v] 49 (0,0))=W:=⟨_,rfl⟩
 have e1:Ext w W1:=by rw[←hW1];exact Ext.alloc _ _
 have e2:Ext W1 W2:=by rw[←hW2];exact Ext.alloc _ _
 have b1:=e2.obj (show W1.heap[w.heap.size]? =some (.cells #[.int .i64 E,vU Id,vU id,.int .i64 la,.int .i64 st,.int .i64 ct,vU du,vU tk,vU tu,vU sg,vU ps,.int .i64 sz,.int .i64 Many,.bool Is,u] 49 (0,0)) by rw[←hW1];exact heap_alloc_new _ _)
 have b2:W2.heap[W1.heap.size]? =some (.cells #[.int .i64 E,vU Id,vU id,.int .i64 la,.int .i64 st,.int .i64 ct,vU du,vU tk,vU tu,vU sg,vU ps,.int .i64 sz,.int .i64 Many,.bool Is,v] 49 (0,0)):=by rw[←hW2];exact heap_alloc_new _ _
 obtain⟨x0,x1,x2,x3,x4,x5,x6,x7,x8,x9,x10,x11,x12,x13,x14,-⟩:=blk15 b1
 obtain⟨y0,y1,y2,y3,y4,y5,y6,y7,y8,y9,y10,y11,y12,y13,y14,-⟩:=blk15 b2
 have HX:=hid (e1.trans e2)
 have HU:=hid (hu.ext (e1.trans e2))
 have HV:=hid (hv.ext (e1.trans e2))
 clear e1 e2 b1 b2 hu hv
 go_enter Tryz.func18,Tryz.ntmps18
 go_wp2_with fail
 clear hW1 hW2 x0 x1 x2 x3 x4 x5 x6 x7 x8 x9 x10 x11 x12 x13 x14 y0 y1 y2 y3 y4 y5 y6 y7 y8 y9 y10 y11 y12 y13 y14
 refine(rsame64_any u v Ids Ids W2 HU.out HV.out).mono ?_
 rintro e w3 ⟨rfl,hx⟩
 have hb:(Ids==Ids)=true:=by simp
 go_wp2
 go_returns
 exact⟨rfl,HX.out.trans hx⟩
end Go.Proofs.YtcfgafododiioaaGreatDoor
set_option maxRecDepth 100000
namespace Go.Proofs.YtcfgafododiioaaGreatDoor
open Go Go.RowKit Go.Tum Go.ChangeMaps Go.Sort
theorem IX.bs {B:Nat} {w:World} {p:Nat} {x:XP} {q:QR} (h:IX B w p x q):B≤w.heap.size:=by
 have:=h.blk_lo p (XP.mem_blk.2 ⟨0,by decide,by simp[XP.comp]⟩)
 omega
structure I2 (B:Nat) (w:World) (p:Nat) (x:XP) (q:QR) (p2:Nat) (y:XP) (r:QR):Prop where
 a:IX B w p x q
 b:IX B w p2 y r
 ap:∀c∈x.blk p,c∉y.blk p2
section
variable {B : Nat} {w w' : World} {p p2 : Nat} {x y : XP} {q r : QR}
theorem I2.ext (h:I2 B w p x q p2 y r) (k:Ext w w'):I2 B w' p x q p2 y r:=⟨h.a.ext k,h.b.ext k,h.ap⟩
theorem I2.symm (h:I2 B w p x q p2 y r):I2 B w p2 y r p x q:=⟨h.b,h.a,fun c hc hm=>h.ap c hm hc⟩
theorem IX.off_fr (h:IX B w p2 y r) {S:List Nat} (f:Fr S w w') (hs:∀c∈S,c∉y.blk p2):IX B w' p2 y r:=
 h.fr f fun i hi a ha hm=>hs a hm (XP.mem_blk.2 ⟨i,hi,ha⟩)
theorem I2.left (h:I2 B w p x q p2 y r) {q':QR} (s:XStp B w p x q' w'):∃x',I2 B w' p x' q' p2 y r∧Fr (x.blk p) w w'∧(∀a∈x'.blk p,a∈x.blk p∨w.heap.size≤a):=by
 obtain⟨x',i,f,n⟩:=s
 refine⟨x',⟨i,h.b.off_fr f h.ap,fun c hc hm=> ?_⟩,f,n⟩
 rcases n c hc with k|k
 · exact h.ap c k hm
 · have:=(h.b.blk_lo c hm).2
   omega
theorem I2.right (h:I2 B w p x q p2 y r) {r':QR} (s:XStp B w p2 y r' w'):∃y',I2 B w' p x q p2 y' r'∧Fr (y.blk p2) w w'∧(∀a∈y'.blk p2,a∈y.blk p2∨w.heap.size≤a):=by
 obtain⟨y',i,f,n⟩:=h.symm.left s
 exact⟨y',i.symm,f,n⟩
theorem I2.made {w1:World} (h:IX B w p x q) (k:IX w.heap.size w1 p2 y r) (e:Ext w w1) (hB:B≤w.heap.size):I2 B w1 p x q p2 y r:=
 ⟨h.ext e,k.lower hB,fun c hc hm=>by have:=(h.blk_lo c hc).2;have:=(k.blk_lo c hm).1;omega⟩
end
def SrX (s:SR) (V:Value) (w:World):Prop:=∃b vi vd vc,V=srV s vi vd vc∧SrO b w s vi vd vc
def RsX (s:SR) (V:Value) (w:World):Prop:=∃b x y z,V=srV s x y z∧RSt b w s x y z
theorem SrX.ext {s:SR} {V:Value} {w w':World} (h:SrX s V w) (k:Ext w w'):SrX s V w':=by
 obtain⟨b,vi,vd,vc,e,h⟩:=h
 exact⟨b,vi,vd,vc,e,h.ext k⟩
theorem RsX.ext {s:SR} {V:Value} {w w':World} (h:RsX s V w) (k:Ext w w'):RsX s V w':=by
 obtain⟨b,x,y,z,e,h⟩:=h
 exact⟨b,x,y,z,e,h.ext k⟩
theorem st_val {B n:Nat} {w:World} {p:Nat} {x:XP} {q:QR} (h:IX B w p x q) (hq:XQ n q) (ht:TB w) {s:SR} (hs:stateQ q=s):
 Calls Tryz.prog 23 #[pv p] w fun e w'=>(∃V,e= .returned V∧SrX s V w')∧Ext w w':=
 (st_any h hq ht hs).mono fun e w' ⟨⟨vi,vd,vc,he,ho⟩,hx⟩=>⟨⟨_,he,_,vi,vd,vc,rfl,ho⟩,hx⟩
theorem lst_val {w:World} {s:SR} {V:Value} (h:SrX s V w) (hs:SmS s):
 Calls Tryz.prog 22 #[V] w fun e w'=>(∃V',e= .returned V'∧RsX s V' w')∧Ext w w':=by
 obtain⟨b,vi,vd,vc,rfl,ho⟩:=h
 exact(lst_any ho hs).mono fun e w' ⟨⟨x,y,z,he,hr⟩,hx⟩=>⟨⟨_,he,_,x,y,z,rfl,hr⟩,hx⟩
theorem rsame_val {w:World} {s:SR} {U V:Value} (h:RsX s U w) (k:RsX s V w) (hs:SmS s):
 Calls Tryz.prog 21 #[U,V] w fun e w'=>e= .returned (.bool true)∧Ext w w':=by
 obtain⟨b,x,y,z,rfl,hr⟩:=h
 obtain⟨b2,x2,y2,z2,rfl,hr2⟩:=k
 exact rsame11_eq hr hr2 (by have:=hs.it;omega)
def FrmX (B n:Nat) (q:QR) (X:Nat) (w:World):Prop:=∃y r,IX B w X y r∧MadeR n q.lanes q.pay q.del (stateQ q) r
theorem FrmX.ext {B n:Nat} {q:QR} {X:Nat} {w w':World} (h:FrmX B n q X w) (k:Ext w w'):FrmX B n q X w':=by
 obtain⟨y,r,a,b⟩:=h
 exact⟨y,r,a.ext k,b⟩
theorem FrmX.low {B B' n:Nat} {q:QR} {X:Nat} {w:World} (h:FrmX B n q X w) (k:B'≤B):FrmX B' n q X w:=by
 obtain⟨y,r,a,b⟩:=h
 exact⟨y,r,a.lower k,b⟩
theorem from_val {n:Nat} {w:World} {q:QR} {V:Value} (hs:XQ n q) (hn:n≤4611686018427387904) (h:SrX (stateQ q) V w) (ht:TB w):
 Calls Tryz.prog 28 #[ccV q.lanes q.pay q.del,V] w fun e w'=>(∃X,e= .returned (.tuple #[pv X,.int .i64 0])∧FrmX w.heap.size n q X w')∧Ext w w':=by
 obtain⟨b,vi,vd,vc,rfl,h⟩:=h
 obtain⟨o1,k1,rfl⟩:=row_shape h.it
 obtain⟨o2,k2,rfl⟩:=row_shape h.dd
 obtain⟨o3,k3,rfl⟩:=row_shape h.cu
 refine(ifrom_any n q.lanes q.pay q.del (Sl.of_owns h.it) (Sl.of_owns h.dd) (Sl.of_owns h.cu) ht (by have:=dead_len hs.wi.wq hs.wi.wd;omega) (state_curs hs.wi.wd) (fun _=>⟨hs.wi.lo.le,hs.wi.lo.tu,hs.wi.lo.de⟩)).mono ?_
 rintro e w' ⟨hf,hx⟩
 rw[state_ok hs hn,hs.wi.wq.right,if_pos (by rfl)] at hf
 obtain⟨X,x,r,rfl,hI,hM⟩:=hf
 exact⟨⟨X,rfl,x,r,hI,hM⟩,hx⟩
end Go.Proofs.YtcfgafododiioaaGreatDoor
namespace Go.Proofs.YtcfgafododiioaaGreatDoor
open Go Go.RowKit Go.Tum Go.ChangeMaps Go.Sort
def Set3 (q r:QR):Prop:=r.lanes=q.lanes∧r.pay=q.pay∧r.del=q.del
theorem Set3.refl (q:QR):Set3 q q:=⟨rfl,rfl,rfl⟩
theorem Set3.trans {a b c:QR} (h:Set3 a b) (k:Set3 b c):Set3 a c:=⟨k.1.trans h.1,k.2.1.trans h.2.1,k.2.2.trans h.2.2⟩
theorem Set3.bec (q:QR) (z:It) (l:L):Set3 q (becQ q z l):=by
 obtain⟨a1,a2,a3,-⟩:=becQ_same q z l
 exact⟨a1,a2,a3⟩
theorem Set3.tickL:∀(k:Nat) (q:QR),Set3 q (Go.Proofs.YtcfgafododiioaaGreatDoor.tickL k q).2
 |0,q=>Set3.refl q
 |k+1,q=>by
  unfold Go.Proofs.YtcfgafododiioaaGreatDoor.tickL
  split
  · exact Set3.refl q
  · exact(Set3.bec q _ _).trans (Set3.tickL k _)
theorem Set3.resL (d:Int):∀(l:List It) (q:QR),Set3 q (Go.Proofs.YtcfgafododiioaaGreatDoor.resL d l q)
 |[],q=>Set3.refl q
 |z::r,q=>by
  unfold Go.Proofs.YtcfgafododiioaaGreatDoor.resL
  exact(Set3.bec q _ _).trans (Set3.resL d r _)
theorem Set3.with (q:QR) (t:UInt64) (f:L→L×Int):Set3 q (withQ q t f).2.2:=by
 unfold withQ
 split
 · exact Set3.refl q
 · dsimp only
   split
   · exact Set3.refl q
   · exact Set3.bec q _ _
theorem Set3.dead (q:QR) (i:UInt64) (s:Int):Set3 q (deadQ q i s).2:=by
 unfold deadQ
 dsimp only
 split
 · exact Set3.refl q
 · exact Set3.bec q _ _
theorem Set3.actB (q:QR) (a:Ai):∀k:Kd,Set3 q (Go.Proofs.YtcfgafododiioaaGreatDoor.actB q a k).2
 | .a0=>by
  rw[actB0]
  show Set3 q (putQ q a.lane a.n a.sg a.ps a.size).2.2
  unfold putQ
  split
  · exact Set3.refl q
  split
  · exact Set3.refl q
  split
  · exact Set3.refl q
  split
  · exact Set3.refl q
  exact Set3.bec q _ _
 | .a1=>by
  rw[actB1]
  show Set3 q (leaseQ q a.lane a.n).2.2
  unfold leaseQ
  split
  · exact Set3.refl q
  split
  · exact Set3.refl q
  dsimp only
  split
  · exact Set3.refl q
  exact Set3.bec {q with leases:=q.leases+1} _ _
 | .a2=>by rw[actB2];exact Set3.with q _ _
 | .a3=>by rw[actB3];exact Set3.with q _ _
 | .a4=>by rw[actB4];exact Set3.with q _ _
 | .a5=>by
  have hk:Set3 q (tickQ q a.n).2.2:=by
   unfold tickQ
   split
   · exact Set3.refl q
   · have:=Set3.tickL 201 {q with now:=q.now+a.n}
     generalize Go.Proofs.YtcfgafododiioaaGreatDoor.tickL 201 {q with now:=q.now+a.n}=T at this⊢
     exact this
  obtain⟨T,hT⟩:∃T,tickQ q a.n=T:=⟨_,rfl⟩
  rw[actB5,hT]
  rw[hT] at hk
  exact hk
 | .a6=>by rw[actB6];exact Set3.dead q _ _
 | .a7=>by rw[actB7];exact Set3.dead q _ _
 | .a8=>by rw[actB8];exact Set3.refl q
 | .a9=>by rw[actB9];exact Set3.resL _ _ q
 | .a10=>by rw[actB10];exact Set3.refl q
 | .a11=>by rw[actB11];exact Set3.refl q
theorem Set3.act (q:QR) (a:Ai):Set3 q (actI q a).2:=Set3.actB q a _
theorem act_tick (q:QR) (t:UInt64) {T:Nat×Int×QR} (hT:tickQ q t=T):actI q ⟨5,0,0,0,t,[],0,0,0⟩=({an0 with many:=(T.1:Int),e:=T.2.1},T.2.2):=by
 show actB q _ (kindI _)=_
 rw[show kindI ⟨5,0,0,0,t,[],0,0,0⟩=Kd.a5 by unfold kindI;simp,actB5]
 dsimp only
 rw[hT]
theorem act_tick2 {N:Nat} {q:QR} (h:XQ N q) (hN:N+300≤5000000000000000000) (t:UInt64) {T:Nat×Int×QR} (hT:tickQ q t=T):XQ (N+300) T.2.2:=by
 have:=h.act hN ⟨5,0,0,0,t,[],0,0,0⟩
 rw[act_tick q t hT] at this
 exact this
end Go.Proofs.YtcfgafododiioaaGreatDoor
set_option maxRecDepth 100000
namespace Go.Proofs.YtcfgafododiioaaGreatDoor
open Go Go.RowKit Go.Tum Go.ChangeMaps Go.Sort
open Go.ParB (upd Lof)
open Go.ParE (putS slotsR slots Closed)
def AgQ (C B:Nat) (W:World) (p:Nat) (q1:QR) (p2:Nat) (y:XP) (r r1:QR) (A:An) (bo:Nat) (o:Obj) (i:Nat) (σ:Nat→Value) (w':World):Prop:=Below C W w'∧w'.heap[bo]? =some o∧match i with
 |0=>Ext W w'
 |1=>∃x1 u,σ 71=anV A u∧w'.ownsRow W.heap.size 36 1 u A.ids.length (A.ids.map vU)∧I2 B w' p x1 q1 p2 y r
 |2=>∃x1 y1 u v,σ 71=anV A u∧σ 74=anV A v∧Vec uv w' u A.ids∧Vec uv w' v A.ids∧I2 B w' p x1 q1 p2 y1 r1
 |_=>∃x1 y1,I2 B w' p x1 q1 p2 y1 r1
set_option maxHeartbeats 2000000 in
theorem indexAgain_law (la pa de:Int) (v:Value) (m:List Ai) (v2:Value) (m2:List Ai) (w:World) (hA:ActsI w v m) (hA2:ActsI w v2 m2) (ht:TB w):
 Calls Tryz.prog 5 #[ccV la pa de,v,v2] w fun e w'=>e= .returned (.bool true)∧Ext w w':=by
 have HA:=hid hA
 have HA2:=hid hA2
 have HT:=hid ht
 obtain⟨hrow,hokk⟩:=hA
 obtain⟨ao,cap,rfl,hle,hm,hnn,hcell⟩:=hrow.open
 have HNN:=hid hnn
 have HC:=hid hcell
 clear hrow hokk hcell hnn
 obtain⟨hrow,hokk⟩:=hA2
 obtain⟨ao2,cap2,rfl,hle2,hm2,hnn,hcell⟩:=hrow.open
 have HNN2:=hid hnn
 have HC2:=hid hcell
 obtain⟨W1,hW1⟩:∃W,w.alloc (ccO la pa de)=W:=⟨_,rfl⟩
 have HE1:Hid (Ext w W1):=hid (by rw[←hW1];exact Ext.alloc _ _)
 have HB1:Hid (W1.heap[w.heap.size]? =some (ccO la pa de)):=hid (by rw[←hW1];exact heap_alloc_new _ _)
 have HLB:Hid (w.heap.size<W1.heap.size):=hid (by rw[←hW1];simp)
 clear hrow hokk hcell hnn ht
 go_enter Tryz.func5,Tryz.ntmps5
 go_wp2_with fail
 clear hW1
 obtain⟨cb,hcb⟩:∃c,w.heap.size=c:=⟨_,rfl⟩
 have HCB:Hid (w.heap.size=cb):=hid hcb
 rw[hcb] at HB1
 try rw[hcb]
 clear hcb
 refine(awake11_any W1 (TBx HT.out HE1.out)).mono ?_
 rintro e w2 ⟨rfl,hx⟩
 have HX2:Hid (Ext W1 w2):=hid hx
 have HE2:=hid (HE1.out.trans hx)
 clear hx
 go_wp2_with fail
 refine(ilarge_any _ m w2 (HA.out.ext HE2.out)).mono ?_
 rintro e w3 ⟨⟨r,rfl,hr⟩,hx⟩
 have HX3:=hid (HX2.out.trans hx)
 have HE3:=hid (HE2.out.trans hx)
 clear hx
 cases r
 case true=>
  clear hr
  go_wp2
  go_returns
  exact⟨rfl,HE3.out⟩
 have HS:=hid (hr rfl)
 clear hr
 go_wp2_with fail
 refine(ilarge_any _ m2 w3 (HA2.out.ext HE3.out)).mono ?_
 rintro e w4 ⟨⟨r,rfl,hr⟩,hx⟩
 have HX4:=hid (HX3.out.trans hx)
 have HE4:=hid (HE3.out.trans hx)
 clear hx
 cases r
 case true=>
  clear hr
  go_wp2
  go_returns
  exact⟨rfl,HE4.out⟩
 have HS2:=hid (hr rfl)
 clear hr
 obtain⟨x0,x1,x2,-⟩:=lk3 (HX4.out.obj HB1.out)
 go_wp2_with fail
 clear x0 x1 x2
 refine(inew_any la pa de (TBx HT.out HE4.out)).mono ?_
 rintro e w5 ⟨hn,hx⟩
 have HE5:=hid (HE4.out.trans hx)
 have HCX5:Hid (w5.heap[cb]? =some (ccO la pa de)):=hid (hx.obj (HX4.out.obj HB1.out))
 clear hx
 obtain⟨rc,hrc⟩:∃b,rightC la pa de=b:=⟨_,rfl⟩
 rw[hrc] at hn
 clear hrc
 cases rc
 case false=>
  rw[if_neg (by simp)] at hn
  subst hn
  go_wp2
  go_returns
  exact⟨rfl,HE5.out⟩
 rw[if_pos rfl] at hn
 obtain⟨p,x,q,rfl,hI,hM⟩:=hn
 obtain⟨B,hB⟩:∃B,W1.heap.size=B:=⟨_,rfl⟩
 have hI0:=hI.lower HX4.out.size
 rw[hB] at hI0 HLB
 have HLBx:Hid (cb<B):=hid (by rw[←HCB.out];exact HLB.out)
 have HI5:Hid (IX B w5 p x q):=hid hI0
 have HQ5:Hid (XQ (300*0) q∧(q.lanes=la∧q.pay=pa∧q.del=de)):=hid ⟨hM.xq,hM.la,hM.pa,hM.de⟩
 clear hI hM hI0 hB HX4 HX3 HX2 HE4 HE3 HE2 HE1 HB1
 go_wp2
 go_loopw [32] (fun i wr=>∃(k:Nat) (x:XP) (q:QR),k≤m.length∧i= .int .i64 (k:Int)∧Hid (IX B wr p x q)∧Hid (XQ (300*k) q∧(q.lanes=la∧q.pay=pa∧q.del=de))∧Hid (Ext w wr)∧Hid (wr.heap[cb]? =some (ccO la pa de))) (fun i _=>m.length - (intOf i).toNat)
 case atStart=>exact⟨0,x,q,Nat.zero_le _,rfl,HI5,HQ5,HE5,HCX5⟩
 case round=>
  clear HI5 HQ5 HE5 HCX5 x q
  obtain⟨k,x,q,hk,rfl,HI,HQ,HE,HCX⟩:=hrel
  by_cases hlt:k<m.length
  · obtain⟨a0,rfl⟩:=HNN.out (by omega)
    have c0:=cell_first (HE.out.cell (HC.out a0 rfl k hlt 0 _ rfl))
    have c1:=cell_next (HE.out.cell (HC.out a0 rfl k hlt 1 _ rfl)) (by decide)
    have c2:=cell_next (HE.out.cell (HC.out a0 rfl k hlt 2 _ rfl)) (by decide)
    have c3:=cell_next (HE.out.cell (HC.out a0 rfl k hlt 3 _ rfl)) (by decide)
    have c4:=cell_next (HE.out.cell (HC.out a0 rfl k hlt 4 _ rfl)) (by decide)
    have c5:=cell_next (HE.out.cell (HC.out a0 rfl k hlt 5 _ rfl)) (by decide)
    have c6:=cell_next (HE.out.cell (HC.out a0 rfl k hlt 6 _ rfl)) (by decide)
    have c7:=cell_next (HE.out.cell (HC.out a0 rfl k hlt 7 _ rfl)) (by decide)
    have c8:=cell_next (HE.out.cell (HC.out a0 rfl k hlt 8 _ rfl)) (by decide)
    have HOK:=hid (HA.out.2 m[k] (List.getElem_mem hlt))
    have HSN:=hid (HS.out.2 m[k] (List.getElem_mem hlt))
    have HLM:=hid HS.out.1
    obtain⟨aq,haq⟩:∃z,m[k]=z:=⟨_,rfl⟩
    rw[haq] at c0 c1 c2 c3 c4 c5 c6 c7 c8 HOK HSN
    clear haq
    obtain⟨dn,lane,many,aid,an,name,asg,aps,asz⟩:=aq
    dsimp only at c0 c1 c2 c3 c4 c5 c6 c7 c8
    have hi1:decide ((k:Int)<m.length)=true:=by simp;omega
    have HKM:=hid hlt
    obtain⟨w5,hw5⟩:∃W,wr.alloc (.cells #[.int .i64 dn,.int .i64 lane,.int .i64 many,vU aid,vU an,vN name,vU asg,vU aps,.int .i64 asz] 40 (0,0))=W:=⟨_,rfl⟩
    have e5:Ext wr w5:=by rw[←hw5];exact Ext.alloc _ _
    have HB5:Hid (w5.heap[wr.heap.size]? =some (.cells #[.int .i64 dn,.int .i64 lane,.int .i64 many,vU aid,vU an,vN name,vU asg,vU aps,.int .i64 asz] 40 (0,0))):=hid (by rw[←hw5];exact heap_alloc_new _ _)
    have HI5:=hid (HI.out.ext e5)
    have HE5:=hid (HE.out.trans e5)
    have HLO5:Hid ((∀a∈x.blk p,a<wr.heap.size)∧cb<B∧wr.heap.size<w5.heap.size):=hid ⟨fun a ha=>(HI.out.blk_lo a ha).2,by rw[←HCB.out];exact HLB.out,by rw[←hw5];simp⟩
    have HCX5:=hid (e5.obj HCX.out)
    clear e5 hlt hk HI HE HCX
    obtain⟨d0,d1,d2,d3,d4,d5,d6,d7,d8,-⟩:=blk9 HB5.out
    go_wp2_with fail
    clear hw5 c0 c1 c2 c3 c4 c5 c6 c7 c8 hi1 d0 d1 d2 d3 d4 d5 d6 d7 d8
    obtain⟨R,hR⟩:∃R,actI q ⟨dn,lane,many,aid,an,name,asg,aps,asz⟩=R:=⟨_,rfl⟩
    have hcall:=do_any11 ⟨dn,lane,many,aid,an,name,asg,aps,asz⟩ HI5.out HI5.out.bs HQ.out.1.wi (by have:=HKM.out;have:=HLM.out;omega) (TBx HT.out HE5.out) (Nat.le_trans HSN.out (by decide)) HOK.out.mn
    have hq9:=HQ.out.1.act (by have:=HKM.out;have:=HLM.out;omega) ⟨dn,lane,many,aid,an,name,asg,aps,asz⟩
    have hs9:=Set3.act q ⟨dn,lane,many,aid,an,name,asg,aps,asz⟩
    rw[hR] at hcall hq9 hs9
    clear hR
    obtain⟨A1,q9⟩:=R
    dsimp only at hq9 hs9
    have HQ9:Hid (XQ (300*k+300) q9∧(q9.lanes=la∧q9.pay=pa∧q9.del=de)):=hid ⟨hq9,hs9.1.trans HQ.out.2.1,hs9.2.1.trans HQ.out.2.2.1,hs9.2.2.trans HQ.out.2.2.2⟩
    clear hq9 hs9 HQ
    refine hcall.mono ?_
    clear hcall
    rintro e w9 ⟨⟨ro,rcap,rfl,hown⟩,⟨x9,i9,f9,n9⟩⟩
    have HI9:=hid i9
    have HE9:Hid (Ext w w9):=hid (Below.trans HE5.out (f9.below (fun a ha=>by have:=HI5.out.blo a ha;have:=HLB.out;omega) HE5.out.size))
    have HCX9:=hid ((f9.block cb (Array.getElem?_eq_some_iff.1 HCX5.out).1 (fun hm=>by have:=HI5.out.blo _ hm;have:=HLO5.out.2.1;omega)).trans HCX5.out)
    clear hown i9 f9 n9 HI5 HE5 HB5 HLO5 HCX5
    go_wp2
    go_roundw
    case rel=>exact⟨k+1,x9,_,HKM.out,by go_num,HI9,hid ⟨HQ9.out.1.mono (by omega),HQ9.out.2⟩,HE9,HCX9⟩
    case measure=>simp[intOf];have:=HKM.out;omega
  · have hki:decide (k<m.length)=false:=by simp;omega
    have HKL:Hid (300*k≤78000):=hid (by have:=HS.out.1;omega)
    clear hk hlt
    obtain⟨s,hs⟩:∃s,stateQ q=s:=⟨_,rfl⟩
    have HSQ:=hid hs
    have HSM:Hid (SmS s):=hid (by rw[←hs];exact sms_of HQ.out.1)
    clear hs
    go_wp2_with fail
    clear hki
    refine Par.wp_region_par (l:=[_,_,_,_,_,_,_,_,_]) rfl Ext (Par.VL [Par.EQ (ccV la pa de),Par.EQ (pv p),(fun v w'=>SrX s v w'),(fun v w'=>∃X,v=Value.tuple #[pv X,.int .i64 0]∧FrmX wr.heap.size (300*k) q X w'),(fun v w'=>∃X,v=Value.tuple #[pv X,.int .i64 0]∧FrmX wr.heap.size (300*k) q X w'),(fun v w'=>∃X,v=pv X∧FrmX wr.heap.size (300*k) q X w'),Par.EQ (Value.int .i64 0),(fun v w'=>∃X,v=pv X∧FrmX wr.heap.size (300*k) q X w'),Par.EQ (Value.int .i64 0)]) (by kernel_rfl) Ext.refl (fun _ _ _ h1 h2=>Ext.trans h1 h2) (Ext.draw _) (Par.VL_stab ?_) ?_ ?_
    · simp only[List.forall_mem_cons,List.not_mem_nil,false_implies,implies_true,and_true]
      refine⟨fun _ _ _ _ h=>h,fun _ _ _ _ h=>h,fun _ _ _ hx h=>h.ext hx,fun _ _ _ hx ⟨X,e,h⟩=>⟨X,e,h.ext hx⟩,fun _ _ _ hx ⟨X,e,h⟩=>⟨X,e,h.ext hx⟩,fun _ _ _ hx ⟨X,e,h⟩=>⟨X,e,h.ext hx⟩,fun _ _ _ _ h=>h,fun _ _ _ hx ⟨X,e,h⟩=>⟨X,e,h.ext hx⟩,fun _ _ _ _ h=>h⟩
    · refine⟨⟨fun _ _=>trivial,fun ρ w' hX hG hk=> ?_⟩,?_⟩
      · obtain⟨(e0:ρ (.tmp 3)=Value.pointer (some ⟨cb,0,none⟩)),-⟩:=hk;refine Par.val_k fun K hK=> ?_;unfold Par.val
        (obtain⟨x0,x1,x2,-⟩:=lk3 (hX.obj HCX.out);go_simp;exact hK _ _ ⟨Ext.refl _,rfl⟩)
      refine⟨⟨fun _ _=>trivial,fun ρ w' hX hG hk=> ?_⟩,?_⟩
      · obtain⟨(e0:ρ (.tmp 7)=pv p),-⟩:=hk;refine Par.val_k fun K hK=> ?_;unfold Par.val
        (go_simp;exact hK _ _ ⟨Ext.refl _,rfl⟩)
      refine⟨⟨fun _ _=>trivial,fun ρ w' hX hG hk=> ?_⟩,?_⟩
      · obtain⟨e0,(e1:ρ (.tmp 42)=pv p),-⟩:=hk;refine Par.val_k fun K hK=> ?_;unfold Par.val
        (refine Par.val_call Tryz.func23 (by kernel_rfl) rfl e0 ?_;simp only[List.map_toArray,List.map_cons,List.map_nil,e1];refine(st_val (HI.out.ext hX) HQ.out.1 (TBx HT.out (HE.out.trans hX)) HSQ.out).mono ?_;rintro e w2 ⟨⟨V,rfl,ho⟩,hx⟩;exact⟨_,rfl,hK _ _ ⟨hx,ho⟩⟩)
      refine⟨⟨fun _ _=>trivial,fun ρ w' hX hG hk=> ?_⟩,?_⟩
      · obtain⟨e0,(e1:ρ (.tmp 41)=ccV la pa de),(e2:(fun v w'=>SrX s v w') (ρ (.tmp 43)) w'),-⟩:=hk;refine Par.val_k fun K hK=> ?_;unfold Par.val
        (refine Par.val_call Tryz.func28 (by kernel_rfl) rfl e0 ?_;simp only[List.map_toArray,List.map_cons,List.map_nil,e1];have hcf:=HQ.out.2;have hcc:ccV la pa de=ccV q.lanes q.pay q.del:=(by rw[hcf.1,hcf.2.1,hcf.2.2]);rw[hcc];refine(from_val HQ.out.1 (by have:=HKL.out;omega) (by rw[HSQ.out];exact e2) (TBx HT.out (HE.out.trans hX))).mono ?_;rintro e w2 ⟨⟨X,rfl,ho⟩,hx⟩;exact⟨_,rfl,hK _ _ ⟨hx,X,rfl,ho.low hX.size⟩⟩)
      refine⟨⟨fun _ _=>trivial,fun ρ w' hX hG hk=> ?_⟩,?_⟩
      · obtain⟨(e0:(fun v w'=>∃X,v=Value.tuple #[pv X,.int .i64 0]∧FrmX wr.heap.size (300*k) q X w') (ρ (.tmp 44)) w'),-⟩:=hk;refine Par.val_k fun K hK=> ?_;unfold Par.val
        (obtain⟨X,e0,hf⟩:=e0;go_simp;exact hK _ _ ⟨Ext.refl _,X,rfl,hf⟩)
      refine⟨⟨fun _ _=>trivial,fun ρ w' hX hG hk=> ?_⟩,?_⟩
      · obtain⟨(e0:(fun v w'=>∃X,v=Value.tuple #[pv X,.int .i64 0]∧FrmX wr.heap.size (300*k) q X w') (ρ (.tmp 40)) w'),-⟩:=hk;refine Par.val_k fun K hK=> ?_;unfold Par.val
        (obtain⟨X,e0,hf⟩:=e0;go_simp;exact hK _ _ ⟨Ext.refl _,X,rfl,hf⟩)
      refine⟨⟨fun _ _=>trivial,fun ρ w' hX hG hk=> ?_⟩,?_⟩
      · obtain⟨(e0:(fun v w'=>∃X,v=Value.tuple #[pv X,.int .i64 0]∧FrmX wr.heap.size (300*k) q X w') (ρ (.tmp 40)) w'),-⟩:=hk;refine Par.val_k fun K hK=> ?_;unfold Par.val
        (obtain⟨X,e0,hf⟩:=e0;go_simp;exact hK _ _ ⟨Ext.refl _,rfl⟩)
      refine⟨⟨fun _ _=>trivial,fun ρ w' hX hG hk=> ?_⟩,?_⟩
      · obtain⟨(e0:(fun v w'=>∃X,v=pv X∧FrmX wr.heap.size (300*k) q X w') (ρ (.tmp 45)) w'),-⟩:=hk;refine Par.val_k fun K hK=> ?_;unfold Par.val
        (obtain⟨X,e0,hf⟩:=e0;go_simp;exact hK _ _ ⟨Ext.refl _,X,rfl,hf⟩)
      refine⟨⟨fun _ _=>trivial,fun ρ w' hX hG hk=> ?_⟩,?_⟩
      · obtain⟨(e0:ρ (.tmp 46)=Value.int .i64 0),-⟩:=hk;refine Par.val_k fun K hK=> ?_;unfold Par.val
        (go_simp;exact hK _ _ ⟨Ext.refl _,rfl⟩)
      trivial
    intro a' w' inv
    have hX:=inv.ext
    have q43:(fun v w'=>SrX s v w') (a'.tmps.getD 43 undef) w':=inv.done 2 _ 43 rfl rfl rfl
    have q44:(fun v w'=>∃X,v=Value.tuple #[pv X,.int .i64 0]∧FrmX wr.heap.size (300*k) q X w') (a'.tmps.getD 44 undef) w':=inv.done 3 _ 44 rfl rfl rfl
    have q40:(fun v w'=>∃X,v=Value.tuple #[pv X,.int .i64 0]∧FrmX wr.heap.size (300*k) q X w') (a'.tmps.getD 40 undef) w':=inv.done 4 _ 40 rfl rfl rfl
    have q45:(fun v w'=>∃X,v=pv X∧FrmX wr.heap.size (300*k) q X w') (a'.tmps.getD 45 undef) w':=inv.done 5 _ 45 rfl rfl rfl
    have q11:(fun v w'=>∃X,v=pv X∧FrmX wr.heap.size (300*k) q X w') (a'.tmps.getD 11 undef) w':=inv.done 7 _ 11 rfl rfl rfl
    have hq:=Par.donesI inv;simp only[Par.dones,Par.EQ,true_and,and_true] at hq
    clear inv
    simp only[List.filterMap_cons,List.filterMap_nil,Par.putAll,Act.put,List.setIfInBounds_toArray,List.set_cons_succ,List.set_cons_zero,hq]
    clear hq
    generalize a'.tmps.getD 43 undef=u43 at*
    generalize a'.tmps.getD 44 undef=u44 at*
    generalize a'.tmps.getD 40 undef=u40 at*
    generalize a'.tmps.getD 45 undef=u45 at*
    generalize a'.tmps.getD 11 undef=u11 at*
    clear a'
    obtain⟨p2,h11,y,r,hI2,hM2⟩:=q11
    have HI2:=hid (I2.made HI.out hI2 hX HI.out.bs)
    have HR2:=hid hM2.xq
    have HSS:Hid (SameQ q r):=hid (MadeR.same HQ.out.1 hM2)
    have HSR:Hid (stateQ r=s):=hid (hM2.st.trans HSQ.out)
    have HE2:=hid (HE.out.trans hX)
    clear hI2 hM2 hX HI HE HCX
    try subst h11
    clear q43 q44 q40 q45
    go_wp2_with fail
    refine(st_val HI2.out.a HQ.out.1 (TBx HT.out HE2.out) HSQ.out).mono ?_
    rintro e wa1 ⟨⟨U1,rfl,h1⟩,hx⟩
    have HEa1:=hid (HE2.out.trans hx)
    have HU1:=hid h1
    have HIa1:=hid (HI2.out.ext hx)
    clear hx h1
    go_wp2_with fail
    refine(lst_val HU1.out HSM.out).mono ?_
    rintro e wa2 ⟨⟨U2,rfl,h1⟩,hx⟩
    have HEa2:=hid (HEa1.out.trans hx)
    have HU2:=hid h1
    have HIa2:=hid (HIa1.out.ext hx)
    clear hx h1 HIa1 HEa1 HU1
    go_wp2_with fail
    refine(st_val HIa2.out.b HR2.out (TBx HT.out HEa2.out) HSR.out).mono ?_
    rintro e wa3 ⟨⟨U3,rfl,h1⟩,hx⟩
    have HEa3:=hid (HEa2.out.trans hx)
    have HU3:=hid h1
    have HU4:=hid (HU2.out.ext hx)
    have HIa3:=hid (HIa2.out.ext hx)
    clear hx h1 HIa2 HEa2 HU2
    go_wp2_with fail
    refine(lst_val HU3.out HSM.out).mono ?_
    rintro e wa4 ⟨⟨U5,rfl,h1⟩,hx⟩
    have HEa4:=hid (HEa3.out.trans hx)
    have HU5:=hid h1
    have HU6:=hid (HU4.out.ext hx)
    have HIa4:=hid (HIa3.out.ext hx)
    clear hx h1 HEa3 HU3 HU4 HIa3
    go_wp2_with fail
    refine(rsame_val HU6.out HU5.out HSM.out).mono ?_
    rintro e wa5 ⟨rfl,hx⟩
    have HEa5:=hid (HEa4.out.trans hx)
    have HIa5:=hid (HIa4.out.ext hx)
    clear hx HEa4 HU5 HU6 HIa4
    have HQR:Hid (XQ (78000+300*0) q∧XQ (78000+300*0) r):=hid ⟨HQ.out.1.mono (by have:=HKL.out;omega),HR2.out.mono (by have:=HKL.out;omega)⟩
    clear HI2 HE2 HQ HR2 HSQ HSR HSM HKL
    go_wp2
    go_loopw [65] (fun i wr=>∃(k:Nat) (x:XP) (q:QR) (y:XP) (r:QR),k≤m2.length∧i= .int .i64 (k:Int)∧Hid (I2 B wr p x q p2 y r)∧Hid (XQ (78000+300*k) q∧XQ (78000+300*k) r)∧Hid (SameQ q r)∧Hid (Ext w wr)) (fun i _=>m2.length - (intOf i).toNat)
    case atStart=>exact⟨0,x,q,y,r,Nat.zero_le _,rfl,HIa5,HQR,HSS,HEa5⟩
    case round=>
     clear HIa5 HQR HSS HEa5 x q y r
     obtain⟨k,x,q,y,r,hk,rfl,HI,HQ,HSS,HE⟩:=hrel
     by_cases hlt:k<m2.length
     · obtain⟨a0,rfl⟩:=HNN2.out (by omega)
       have c0:=cell_first (HE.out.cell (HC2.out a0 rfl k hlt 0 _ rfl))
       have c1:=cell_next (HE.out.cell (HC2.out a0 rfl k hlt 1 _ rfl)) (by decide)
       have c2:=cell_next (HE.out.cell (HC2.out a0 rfl k hlt 2 _ rfl)) (by decide)
       have c3:=cell_next (HE.out.cell (HC2.out a0 rfl k hlt 3 _ rfl)) (by decide)
       have c4:=cell_next (HE.out.cell (HC2.out a0 rfl k hlt 4 _ rfl)) (by decide)
       have c5:=cell_next (HE.out.cell (HC2.out a0 rfl k hlt 5 _ rfl)) (by decide)
       have c6:=cell_next (HE.out.cell (HC2.out a0 rfl k hlt 6 _ rfl)) (by decide)
       have c7:=cell_next (HE.out.cell (HC2.out a0 rfl k hlt 7 _ rfl)) (by decide)
       have c8:=cell_next (HE.out.cell (HC2.out a0 rfl k hlt 8 _ rfl)) (by decide)
       have HOK:=hid (HA2.out.2 m2[k] (List.getElem_mem hlt))
       have HSN:=hid (HS2.out.2 m2[k] (List.getElem_mem hlt))
       have HLM:=hid HS2.out.1
       obtain⟨aq,haq⟩:∃z,m2[k]=z:=⟨_,rfl⟩
       rw[haq] at c0 c1 c2 c3 c4 c5 c6 c7 c8 HOK HSN
       clear haq
       obtain⟨dn,lane,many,aid,an,name,asg,aps,asz⟩:=aq
       dsimp only at c0 c1 c2 c3 c4 c5 c6 c7 c8
       have hi1:decide ((k:Int)<m2.length)=true:=by simp;omega
       have HKM:=hid hlt
       obtain⟨w5,hw5⟩:∃W,wr.alloc (.cells #[.int .i64 dn,.int .i64 lane,.int .i64 many,vU aid,vU an,vN name,vU asg,vU aps,.int .i64 asz] 40 (0,0))=W:=⟨_,rfl⟩
       have e5:Ext wr w5:=by rw[←hw5];exact Ext.alloc _ _
       have HB5:Hid (w5.heap[wr.heap.size]? =some (.cells #[.int .i64 dn,.int .i64 lane,.int .i64 many,vU aid,vU an,vN name,vU asg,vU aps,.int .i64 asz] 40 (0,0))):=hid (by rw[←hw5];exact heap_alloc_new _ _)
       have HI5:=hid (HI.out.ext e5)
       have HE5:=hid (HE.out.trans e5)
       have HLO5:Hid ((∀a∈x.blk p,a<wr.heap.size)∧∀a∈y.blk p2,a<wr.heap.size):=hid ⟨fun a ha=>(HI.out.a.blk_lo a ha).2,fun a ha=>(HI.out.b.blk_lo a ha).2⟩
       clear e5 hlt hk HI HE
       go_wp2_with fail
       clear hw5 c0 c1 c2 c3 c4 c5 c6 c7 c8 hi1
       obtain⟨bo,hbo⟩:∃b,wr.heap.size=b:=⟨_,rfl⟩
       rw[hbo] at HB5 HLO5
       try rw[hbo]
       clear hbo
       have hs9:=SameQ.act HQ.out.1.wi HQ.out.2.wi (by have:=HKM.out;have:=HLM.out;omega) HSS.out ⟨dn,lane,many,aid,an,name,asg,aps,asz⟩
       have hq9:=HQ.out.1.act (by have:=HKM.out;have:=HLM.out;omega) ⟨dn,lane,many,aid,an,name,asg,aps,asz⟩
       have hr9:=HQ.out.2.act (by have:=HKM.out;have:=HLM.out;omega) ⟨dn,lane,many,aid,an,name,asg,aps,asz⟩
       have hca:=fun W (h2:IX B W p x q) (h3:Ext w W)=>do_any11 ⟨dn,lane,many,aid,an,name,asg,aps,asz⟩ h2 h2.bs HQ.out.1.wi (by have:=HKM.out;have:=HLM.out;omega) (TBx HT.out h3) (Nat.le_trans HSN.out (by decide)) HOK.out.mn
       have hcb:=fun W (h2:IX B W p2 y r) (h3:Ext w W)=>do_any11 ⟨dn,lane,many,aid,an,name,asg,aps,asz⟩ h2 h2.bs HQ.out.2.wi (by have:=HKM.out;have:=HLM.out;omega) (TBx HT.out h3) (Nat.le_trans HSN.out (by decide)) HOK.out.mn
       obtain⟨R,hR⟩:∃R,actI q ⟨dn,lane,many,aid,an,name,asg,aps,asz⟩=R:=⟨_,rfl⟩
       obtain⟨R2,hR2⟩:∃R,actI r ⟨dn,lane,many,aid,an,name,asg,aps,asz⟩=R:=⟨_,rfl⟩
       rw[hR] at hca hs9 hq9
       rw[hR2] at hcb hs9 hr9
       clear hR hR2
       obtain⟨A,q9⟩:=R
       obtain⟨A2,r9⟩:=R2
       dsimp only at hs9 hq9 hr9
       obtain⟨rfl,hs9⟩:=hs9
       have HSS9:=hid hs9
       have HQ9:Hid (XQ (78000+300*k+300) q9∧XQ (78000+300*k+300) r9):=hid ⟨hq9,hr9⟩
       have HCA:=hid hca
       have HCY:=hid hcb
       have HLW:Hid (w.heap.size≤B):=hid (Nat.le_of_lt (by rw[HCB.out];exact HLBx.out))
       clear hs9 hq9 hr9 hca hcb HSS HQ
       refine ParE.wp_region_e (l:=[_,_,_,_,_,_,_,_]) rfl (Rg.Ch [2,5,6] [71,74] (AgQ w.heap.size B w5 p q9 p2 y r r9 A bo (.cells #[.int .i64 dn,.int .i64 lane,.int .i64 many,vU aid,vU an,vN name,vU asg,vU aps,.int .i64 asz] 40 (0,0)))) (ParC.VC [ParC.EQ (pv p),ParC.EQ (aiV ⟨dn,lane,many,aid,an,name,asg,aps,asz⟩),(fun _=>True),ParC.EQ (pv p2),ParC.EQ (aiV ⟨dn,lane,many,aid,an,name,asg,aps,asz⟩),(fun _=>True),ParC.EQ (Value.bool true),ParC.EQ (Value.bool false)]) (by kernel_rfl) (by kernel_rfl) (Rg.Ch.start ⟨Ext.draw _|>fun k=>Below.mono k HE5.out.size,HB5.out,Ext.draw _⟩) ?_ ?_
       · refine⟨fun L ρ w' hR hC hL hd hk=> ?_,?_⟩
         · obtain⟨(e0:ρ (.tmp 7)=pv p),-⟩:=hk;refine Par.val_k fun K hK=> ?_;unfold Par.val
           (go_simp;exact hK _ _ ⟨hR.other (by decide),rfl⟩)
         refine⟨fun L ρ w' hR hC hL hd hk=> ?_,?_⟩
         · obtain⟨(e0:ρ (.tmp 14)=Value.pointer (some ⟨bo,0,none⟩)),-⟩:=hk;refine Par.val_k fun K hK=> ?_;unfold Par.val
           (obtain⟨i,-,-,hq⟩:=hR.ex;obtain⟨d0,d1,d2,d3,d4,d5,d6,d7,d8,-⟩:=blk9 hq.2.1;go_simp;exact hK _ _ ⟨hR.other (by decide),rfl⟩)
         refine⟨fun L ρ w' hR hC hL hd hk=> ?_,?_⟩
         · obtain⟨e0,(e1:ρ (.tmp 69)=pv p),(e2:ρ (.tmp 70)=aiV ⟨dn,lane,many,aid,an,name,asg,aps,asz⟩),-⟩:=hk;refine Par.val_k fun K hK=> ?_;unfold Par.val
           (obtain⟨hq,hs⟩:=hR.go 0 rfl hL (.inl rfl) (by decide);obtain⟨hb,hbo,hx⟩:=hq;refine Par.val_call Tryz.func19 (by kernel_rfl) rfl e0 ?_;simp only[List.map_toArray,List.map_cons,List.map_nil,e1,e2];refine(HCA.out _ (HI5.out.a.ext hx) (HE5.out.trans hx)).mono ?_;rintro e w9 ⟨⟨ro,rcap,rfl,hown⟩,hst⟩;obtain⟨x9,i9,f9,n9⟩:=(HI5.out.ext hx).left hst;exact⟨_,rfl,hK _ _ ⟨hs _ _ _ ⟨Below.trans hb (f9.below (fun a ha=>Nat.le_trans HLW.out (HI5.out.a.blo a ha)) (HE5.out.trans hx).size),(f9.block bo (Array.getElem?_eq_some_iff.1 hbo).1 (fun hm=>by have:=HLO5.out.1 _ hm;omega)).trans hbo,x9,_,rfl,own_lower hown hx.size,i9⟩,trivial⟩⟩)
         refine⟨fun L ρ w' hR hC hL hd hk=> ?_,?_⟩
         · obtain⟨(e0:ρ (.tmp 11)=pv p2),-⟩:=hk;refine Par.val_k fun K hK=> ?_;unfold Par.val
           (go_simp;exact hK _ _ ⟨hR.other (by decide),rfl⟩)
         refine⟨fun L ρ w' hR hC hL hd hk=> ?_,?_⟩
         · obtain⟨(e0:ρ (.tmp 14)=Value.pointer (some ⟨bo,0,none⟩)),-⟩:=hk;refine Par.val_k fun K hK=> ?_;unfold Par.val
           (obtain⟨i,-,-,hq⟩:=hR.ex;obtain⟨d0,d1,d2,d3,d4,d5,d6,d7,d8,-⟩:=blk9 hq.2.1;go_simp;exact hK _ _ ⟨hR.other (by decide),rfl⟩)
         refine⟨fun L ρ w' hR hC hL hd hk=> ?_,?_⟩
         · obtain⟨e0,(e1:ρ (.tmp 72)=pv p2),(e2:ρ (.tmp 73)=aiV ⟨dn,lane,many,aid,an,name,asg,aps,asz⟩),-⟩:=hk;refine Par.val_k fun K hK=> ?_;unfold Par.val
           (obtain⟨hq,hs⟩:=hR.go 1 rfl hL (.inr ⟨2,rfl,hC.before 2 (i:=5) rfl hd (by kernel_rfl)⟩) (by decide);obtain⟨hb,hbo,x9,u,h71,hown,hI⟩:=hq;refine Par.val_call Tryz.func19 (by kernel_rfl) rfl e0 ?_;simp only[List.map_toArray,List.map_cons,List.map_nil,e1,e2];refine(HCY.out _ hI.b (Below.trans HE5.out hb)).mono ?_;rintro e w9 ⟨⟨ro,rcap,rfl,hown2⟩,hst⟩;obtain⟨y9,i9,f9,n9⟩:=hI.right hst;exact⟨_,rfl,hK _ _ ⟨hs _ _ _ ⟨Below.trans hb (f9.below (fun a ha=>Nat.le_trans HLW.out (hI.b.blo a ha)) (Below.trans HE5.out hb).size),(f9.block bo (Array.getElem?_eq_some_iff.1 hbo).1 (fun hm=>by have:=HLO5.out.2 _ hm;omega)).trans hbo,x9,y9,u,_,h71,rfl,Sl.of_owns (owns_fr hown f9 (fun a ha=>(HI5.out.b.blk_lo a ha).2)),Sl.of_owns hown2,i9⟩,trivial⟩⟩)
         refine⟨fun L ρ w' hR hC hL hd hk=> ?_,?_⟩
         · obtain⟨e0,(e1:(fun _=>True) (ρ (.tmp 71))),(e2:(fun _=>True) (ρ (.tmp 74))),-⟩:=hk;refine Par.val_k fun K hK=> ?_;unfold Par.val
           (obtain⟨hq,hs⟩:=hR.go 2 rfl hL (.inr ⟨5,rfl,hC.before 5 (i:=6) rfl hd (by kernel_rfl)⟩) (by decide);obtain⟨hb,hbo,x9,y9,u,u2,h71,h74,hv1,hv2,hI⟩:=hq;have s71:ρ (.tmp 71)=anV A u:=h71;have s74:ρ (.tmp 74)=anV A u2:=h74;refine Par.val_call Tryz.func18 (by kernel_rfl) rfl e0 ?_;simp only[List.map_toArray,List.map_cons,List.map_nil,s71,s74];refine(isame_eq hv1 hv2).mono ?_;rintro e w9 ⟨rfl,hx⟩;exact⟨_,rfl,hK _ _ ⟨hs _ _ _ ⟨Below.ext hb (Below.trans HE5.out hb).size hx,hx.obj hbo,x9,y9,hI.ext hx⟩,rfl⟩⟩)
         refine⟨fun _ _ _ hR _ _ _ hk=>Par.pv [(75,Value.bool true)] hk (by kernel_rfl) ⟨hR.other (by decide),rfl⟩,?_⟩
         trivial
       intro a' w' inv hR
       have q71:(fun _=>True) (a'.tmps.getD 71 undef):=inv.done 2 _ 71 rfl rfl rfl
       have q74:(fun _=>True) (a'.tmps.getD 74 undef):=inv.done 5 _ 74 rfl rfl rfl
       have hq:=Par.donesC inv;simp only[Par.donesV,ParC.EQ,true_and,and_true] at hq
       clear inv
       simp only[List.filterMap_cons,List.filterMap_nil,Par.putAll,Act.put,List.setIfInBounds_toArray,List.set_cons_succ,List.set_cons_zero,hq]
       clear hq
       have hp:=Rg.Ch.fin hR (by decide) 3 rfl;obtain⟨hb,-,x9,y9,hI⟩:=hp;have HI9:=hid hI;have HE9:Hid (Ext w w'):=hid (Below.trans HE5.out hb);clear hb hI hR
       generalize a'.tmps.getD 71 undef=u71 at*
       generalize a'.tmps.getD 74 undef=u74 at*
       try clear a'
       clear HI5 HE5 HB5 HLO5 HCA HCY
       go_wp2
       go_roundw
       case rel=>exact⟨k+1,x9,_,y9,_,HKM.out,by go_num,HI9,hid ⟨HQ9.out.1.mono (by omega),HQ9.out.2.mono (by omega)⟩,HSS9,HE9⟩
       case measure=>simp[intOf];have:=HKM.out;omega
     · have hki:decide (k<m2.length)=false:=by simp;omega
       clear hk hlt
       obtain⟨s,hs⟩:∃s,stateQ q=s:=⟨_,rfl⟩
       have HSQ:=hid hs
       have HSR:Hid (stateQ r=s):=hid (by rw[←hs];exact(HSS.out.state HQ.out.1.wi.wq HQ.out.2.wi.wq).symm)
       have HSM:Hid (SmS s):=hid (by rw[←hs];exact sms_of HQ.out.1)
       clear hs
       go_wp2_with fail
       clear hki
       refine(st_val HI.out.a HQ.out.1 (TBx HT.out HE.out) HSQ.out).mono ?_
       rintro e wa1 ⟨⟨U1,rfl,h1⟩,hx⟩
       have HEa1:=hid (HE.out.trans hx)
       have HU1:=hid h1
       have HIa1:=hid (HI.out.ext hx)
       clear hx h1
       go_wp2_with fail
       refine(lst_val HU1.out HSM.out).mono ?_
       rintro e wa2 ⟨⟨U2,rfl,h1⟩,hx⟩
       have HEa2:=hid (HEa1.out.trans hx)
       have HU2:=hid h1
       have HIa2:=hid (HIa1.out.ext hx)
       clear hx h1 HIa1 HEa1 HU1
       go_wp2_with fail
       refine(st_val HIa2.out.b HQ.out.2 (TBx HT.out HEa2.out) HSR.out).mono ?_
       rintro e wa3 ⟨⟨U3,rfl,h1⟩,hx⟩
       have HEa3:=hid (HEa2.out.trans hx)
       have HU3:=hid h1
       have HU4:=hid (HU2.out.ext hx)
       have HIa3:=hid (HIa2.out.ext hx)
       clear hx h1 HIa2 HEa2 HU2
       go_wp2_with fail
       refine(lst_val HU3.out HSM.out).mono ?_
       rintro e wa4 ⟨⟨U5,rfl,h1⟩,hx⟩
       have HEa4:=hid (HEa3.out.trans hx)
       have HU5:=hid h1
       have HU6:=hid (HU4.out.ext hx)
       have HIa4:=hid (HIa3.out.ext hx)
       clear hx h1 HEa3 HU3 HU4 HIa3
       go_wp2_with fail
       refine(rsame_val HU6.out HU5.out HSM.out).mono ?_
       rintro e wa5 ⟨rfl,hx⟩
       have HEa5:=hid (HEa4.out.trans hx)
       have HIa5:=hid (HIa4.out.ext hx)
       clear hx HEa4 HU5 HU6 HIa4
       go_wp2
       go_returns
       exact⟨rfl,HEa5.out⟩
end Go.Proofs.YtcfgafododiioaaGreatDoor
namespace Go.Proofs.YtcfgafododiioaaGreatDoor.indexAgain
open Go.ChangeShapes Go.WideShapes Go.ChangeAt Go.RowKit
open Go.ChangeMaps (open_string shut_string)
theorem own:ownKnob Tryz.prog.godebug=none:=by kernel_rfl
theorem kid1:laidOutB Tryz.prog=true:=by kernel_rfl
theorem kid2:mapsRowed Tryz.prog=true:=by kernel_rfl
theorem kid3:((List.range Tryz.prog.types.size).all fun t=>match Tryz.prog.underlying t with|some (.slice e)=>decide (0<Tryz.prog.cellsOf e)|_=>true)=true:=by kernel_rfl
theorem kid4:∀t∈Tryz.f5.params.toList,t<Tryz.prog.types.size:=by decide+kernel
theorem firstIs:Go.Pinned.utf8First=Lib.firstData:=by kernel_rfl
theorem acceptIs:(Rows.laid_unicode_utf8_acceptRanges:DataW Unit)=Lib.acceptData:=by kernel_rfl
theorem table {W:World} (h:laidMetH Tryz.prog Rows.indexAgainRow.laid W):TB W:=by
 have h' : laidMet Tryz.prog [("unicode/utf8.acceptRanges", Lib.acceptData), ("unicode/utf8.first", Lib.firstData)] W := by
  rw[←acceptIs,←firstIs]
  exact h
 exact utf8Tabs_of_reads (ρ:=Tryz.lays230_ren) {Tryz.lays230 with} ⟨by kernel_rfl,by kernel_rfl,by kernel_rfl,by kernel_rfl,by kernel_rfl,by kernel_rfl,by kernel_rfl⟩ (Lib.laidMet.reads h' (.tail _ (.head _))) (Lib.laidMet.reads h' (.head _))
set_option maxRecDepth 100000 in
theorem contract (H:Type) (enc:TypeId×Value→H) (W:World) (base:Nat) (args:Array Value) (ds gs:List (DataW H)) (before:List MemPlace)
 (hval:∀(j:Nat) t v,Tryz.f5.params[j]? =some t→args[j]? =some v→Value.okWide Tryz.prog W .any base t v)
 (hW:DataW.Whole enc Tryz.prog Tryz.f5.params.toList Rows.indexAgainSpec.vars false W args.toList ds gs before) (hL:laidMetH Tryz.prog Rows.indexAgainRow.laid W):
 Calls Tryz.prog 5 args W fun e W'=>∃v,e= .returned v∧Rows.indexAgainSpec.post enc Tryz.prog Tryz.f5 false true false false W args v W':=by
 have hW':=hW
 obtain⟨p,q,hA0,hV,rfl,hfz,hnd⟩:=hW
 have hA:DataW.TrodAll enc Tryz.prog W 0 (fun _=>true) true Tryz.f5.params.toList args.toList ds p:=hA0
 rw[Tryz.params5] at hA hval
 obtain⟨v0,vs0,d0,ds0,p0,q0,hargs,rfl,rfl,h0,r0⟩:=trodAll_cons hA
 obtain⟨v1,vs1,d1,ds1,p1,q1,rfl,rfl,rfl,h1,r1⟩:=trodAll_cons r0
 obtain⟨v2,vs2,d2,ds2,p2,q2,rfl,rfl,rfl,h2,r2⟩:=trodAll_cons r1
 obtain⟨rfl,rfl,rfl⟩:=trodAll_nil r2
 obtain rfl:args= #[v0,v1,v2]:=by cases args;simp_all
 obtain⟨rfl,rfl⟩:=trodVars_none hV
 obtain⟨la,pa,de,rfl⟩:=open_conf (hval 0 23 v0 rfl rfl) h0
 obtain⟨m1,hm1⟩:=open_actsI (hval 1 24 v1 rfl rfl) h1
 obtain⟨m2,hm2⟩:=open_actsI (hval 2 24 v2 rfl rfl) h2
 refine(indexAgain_law la pa de v1 m1 v2 m2 W hm1 hm2 (table hL)).mono fun e W' ⟨he,hg⟩=> ?_
 subst he
 exact⟨_,rfl,Go.Tum.law_post kid1 kid2 kid3 kid4 rfl Tryz.underlying4 hW' rfl rfl hg⟩
noncomputable def laidWorld (os:Os):World:=
 let w0:=World.holding Tryz.prog os ⟨#[],#[],[]⟩
 let put (h:Array Obj) (g:Nat) (cs:Array Value):Array Obj:=h.modify g fun
  | .cells _ t frozen=> .cells cs t frozen
  |o=>o
 {w0 with heap:=put (put w0.heap 0 (Lib.firstTab.map fun z=>Value.int .u8 z).toArray) 1 ((List.range 16).flatMap fun i=>[Value.int .u8 (Lib.accLo i),Value.int .u8 (Lib.accHi i)]).toArray}
theorem laid_met (os:Os):laidMet Tryz.prog Rows.indexAgainRow.laid ((laidWorld os).forCall (fun _ _=>0) ⟨#[],#[.agg #[.int .i64 0,.int .i64 0,.int .i64 0],.slice none 0 0,.slice none 0 0],[]⟩).memory:=
 laidMet_of_run3 10 (by kernel_rfl) (by kernel_rfl) (by kernel_rfl)
theorem reads (os:Os) {H:Type} (enc:TypeId×Value→H):∃places,DataW.whole enc Tryz.prog ((laidWorld os).forCall (fun _ _=>0) ⟨#[],#[.agg #[.int .i64 0,.int .i64 0,.int .i64 0],.slice none 0 0,.slice none 0 0],[]⟩).memory Tryz.f5.params.toList Rows.indexAgainSpec.vars false #[Value.agg #[.int .i64 0,.int .i64 0,.int .i64 0],.slice none 0 0,.slice none 0 0].toList 8=some ([.agg [.lit (.int .i64 0),.lit (.int .i64 0),.lit (.int .i64 0)],.nil,.nil],[],places):=
 ⟨[],by kernel_rfl⟩
set_option maxRecDepth 100000 in
theorem lifted (os:Os) (started:os.Started) (H:Type) (enc:TypeId×Value→H) (F:Stop.Interp):
 ReturnsInHanded {} Tryz.checked os 5 .any ((OpenSpec.ofChange Rows.indexAgainSpec).preRow enc Tryz.prog Tryz.f5 Rows.indexAgainRow.domain false Rows.indexAgainRow.laid) (((OpenSpec.ofChange Rows.indexAgainSpec).at F).post enc Tryz.prog Tryz.f5 false true false false):=by
 obtain⟨places,hx⟩:=reads os enc
 refine returnsInHanded_of_row (C:=Tryz.checked) (s:=OpenSpec.ofChange Rows.indexAgainSpec) own started (by kernel_rfl) Tryz.func5
  (witness_row_at (enc:=enc) (C:=Tryz.checked) false (laidWorld os) #[.agg #[.int .i64 0,.int .i64 0,.int .i64 0],.slice none 0 0,.slice none 0 0] rfl (by kernel_rfl) (by kernel_rfl) (by kernel_rfl)
   (OpenSpec.preRow_of_cond 8 hx (by kernel_rfl) (fun k hk=>by cases hk) (by kernel_rfl) (laid_met os))) ?_
 intro W base args ds gs before hval hW _ _ _ hL _ _
 exact contract H enc W base args ds gs before hval hW hL
theorem said:Rows.IndexAgainSaid:=
 OpenClaim.holds_of_cond 5 Tryz.f5 rfl rfl rfl rfl rfl rfl rfl ⟨rfl,rfl,rfl,rfl,rfl⟩ rfl rfl rfl rfl rfl (by kernel_rfl) Tryz.func5 (by kernel_rfl)
  (of_decide_eq_true (by kernel_rfl)) (by unfold Func.isWrapper;first|(rw[if_pos (by decide+kernel)];kernel_rfl)|(rw[if_neg (by decide+kernel)];exact⟨rfl,rfl⟩))
  (fun os started H enc _ F=>by rw[OpenClaim.pre_eq_preRow];exact lifted os started H enc F)
theorem plain (f : FuncId) (fn : Func) (hf : Tryz.pinned.checked.prog.funcNamed "tumbrel/tumbrellaw11.IndexAgain" = some f) (hfn : Tryz.pinned.checked.prog.funcs[f]? = some fn) :
 false=Tryz.pinned.checked.prog.looks []∧∀(j:Nat) t,fn.params[j]? =some t→Tryz.pinned.checked.prog.wantsStandIn t=false:=by
 obtain rfl : f = 5 := Option.some.inj ((show Tryz.prog.funcNamed "tumbrel/tumbrellaw11.IndexAgain" = some 5 by kernel_rfl).symm.trans hf) |>.symm
 obtain rfl:fn=Tryz.f5:=(Option.some.inj (Tryz.func5.symm.trans hfn)).symm
 refine⟨by kernel_rfl,fun j t ht=> ?_⟩
 rw[Tryz.params5] at ht
 have hm:=Array.mem_of_getElem? ht
 have hall:∀t∈Tryz.f5.params.toList,Tryz.prog.wantsStandIn t=false:=by decide+kernel
 rw[Tryz.params5] at hall
 exact hall t (by simpa using hm)
theorem proved:Rows.IndexAgainCardSaid:=
 Claim7.holds_tied_plain_at .later [] _ _ _ _ said (fun _ h=>by cases h) (by kernel_rfl) (fun _ h=>by cases h) indexAgain_row_tie rfl ⟨rfl,rfl⟩ (by kernel_rfl) rfl plain (by kernel_rfl)
end Go.Proofs.YtcfgafododiioaaGreatDoor.indexAgain
