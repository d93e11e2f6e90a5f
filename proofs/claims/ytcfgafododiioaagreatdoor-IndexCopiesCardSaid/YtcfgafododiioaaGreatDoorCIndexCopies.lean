/- For every input the law IndexCopies returns true and leaves what was there as it was; no condition but the sizes of the row. -/
import Derived.Test.YtcfgafododiioaaGreatDoorC45
import Derived.Test.YtcfgafododiioaaGreatDoorC44
import Derived.Test.YtcfgafododiioaaGreatDoorC33
import Derived.Test.YtcfgafododiioaaGreatDoorC11
import Derived.Laws.Rows
import Derived.Laws.Tables
import Derived.Test.YtcfgafododiioaaGreatDoorCards
import Derived.Test.YtcfgafododiioaaGreatDoorTie
import Derived.WalkKit
import Derived.ProofKit
import Derived.OpenShut
import Derived.Below
import Derived.Deep.DeepHandedRow
import Derived.SizedLaws
import Derived.Lib.LaidU8
import Derived.Deep.DeepLaidRun
import Derived.ShutString
import Derived.Test.YtcfgafododiioaaGreatDoorC1
import Derived.Lib.SmallJoins
set_option linter.unusedSimpArgs false
set_option linter.unusedVariables false
set_option maxRecDepth 100000
namespace Go.Proofs.YtcfgafododiioaaGreatDoor
open Go Go.RowKit Go.Tum Go.ChangeMaps Go.Sort
open Go.ParB (upd Lof)
open Go.ParE (putS slotsR slots Closed)
set_option maxHeartbeats 2000000 in
theorem isame_eq {w:World} {a:An} {u v:Value} (hu:Vec uv w u a.ids) (hv:Vec uv w v a.ids):
 Calls Tryz.prog 18 #[anV a u,anV a v] w fun e w'=>e= .returned (.bool true)∧Ext w w':=by
 obtain⟨E,Id,⟨id,la,st,ct,du,tk,tu,sg,ps,sz⟩,Many,Is,Ids⟩:=a
 obtain⟨W1,hW1⟩:∃W,w.alloc (.cells #[.int .i64 E,vU Id,vU id,.int .i64 la,.int .i64 st,.int .i64 ct,vU du,vU tk,vU tu,vU sg,vU ps,.int .i64 sz,.int .i64 Many,.bool Is,u] 49 (0,0))=W:=⟨_,rfl⟩
 obtain⟨W2,hW2⟩:∃W,W1.alloc (.cells #[.int .i64 E,vU Id,vU id,.int .i64 la,.int .i64 st,.int .i64 ct,vU du,vU tk,vU tu,vU sg,vU ps,.int .i64 sz,.int .i64 Many,.bool Is,v] 49 (0,0))=W:=⟨_,rfl⟩
 have e1:Ext w W1:=by rw[←hW1];exact Ext.alloc _ _
 have e2:Ext W1 W2:=by rw[←hW2];exact Ext.alloc _ _
 have b1:=e2.obj (show W1.heap[w.heap.size]? =some (.cells #[.int .i64 E,vU Id,vU id,.int .i64 la,.int .i64 st,.int .i64 ct,vU du,vU tk,vU tu,vU sg,vU ps,.int .i64 sz,.int .i64 Many,.bool Is,u] 49 (0,0)) by rw[←hW1];exact heap_alloc_new _ _)
 have b2:W2.heap[W1.heap.size]? =some (.cells #[.int .i64 E,vU Id,vU id,.int .i64 la,.int .i64 st,.int .i64 ct,vU du,vU tk,vU tu,vU sg,vU ps,.int .i64 sz,.int .i64 Many,.bool Is,v] 49 (0,0)):=by rw[←hW2];exact heap_alloc_new _ _
 obtain⟨x0,x1,x2,x3,x4,x5,x6,x7,x8,x9,x10,x11,x12,x13,x14,-⟩:=blk15 b1
 obtain⟨y0,y1,y2,y3,y4,y5,y6,y7,y8,y9,y10,y11,y12,y13,y14,-⟩:=blk15 b2
 have HX:=hid (e1.trans e2)
 have HU:=hid (hu.ext (e1.trans e2))
 have HV:=hid (hv.ext (e1.trans e2))
 clear e1 e2 b1 b2 hu hv
 go_enter Tryz.func18,Tryz.ntmps18
 go_wp2_with fail
 clear hW1 hW2 x0 x1 x2 x3 x4 x5 x6 x7 x8 x9 x10 x11 x12 x13 x14 y0 y1 y2 y3 y4 y5 y6 y7 y8 y9 y10 y11 y12 y13 y14
 refine(rsame64_any u v Ids Ids W2 HU.out HV.out).mono ?_
 rintro e w3 ⟨rfl,hx⟩
 have hb:(Ids==Ids)=true:=by simp
 go_wp2
 go_returns
 exact⟨rfl,HX.out.trans hx⟩
end Go.Proofs.YtcfgafododiioaaGreatDoor
set_option maxRecDepth 100000
namespace Go.Proofs.YtcfgafododiioaaGreatDoor
open Go Go.RowKit Go.Tum Go.ChangeMaps Go.Sort
theorem IX.bs {B:Nat} {w:World} {p:Nat} {x:XP} {q:QR} (h:IX B w p x q):B≤w.heap.size:=by
 have:=h.blk_lo p (XP.mem_blk.2 ⟨0,by decide,by simp[XP.comp]⟩)
 omega
structure I2 (B:Nat) (w:World) (p:Nat) (x:XP) (q:QR) (p2:Nat) (y:XP) (r:QR):Prop where
 a:IX B w p x q
 b:IX B w p2 y r
 ap:∀c∈x.blk p,c∉y.blk p2
section
variable {B : Nat} {w w' : World} {p p2 : Nat} {x y : XP} {q r : QR}
theorem I2.ext (h:I2 B w p x q p2 y r) (k:Ext w w'):I2 B w' p x q p2 y r:=⟨h.a.ext k,h.b.ext k,h.ap⟩
theorem I2.symm (h:I2 B w p x q p2 y r):I2 B w p2 y r p x q:=⟨h.b,h.a,fun c hc hm=>h.ap c hm hc⟩
theorem IX.off_fr (h:IX B w p2 y r) {S:List Nat} (f:Fr S w w') (hs:∀c∈S,c∉y.blk p2):IX B w' p2 y r:=
 h.fr f fun i hi a ha hm=>hs a hm (XP.mem_blk.2 ⟨i,hi,ha⟩)
theorem I2.left (h:I2 B w p x q p2 y r) {q':QR} (s:XStp B w p x q' w'):∃x',I2 B w' p x' q' p2 y r∧Fr (x.blk p) w w'∧(∀a∈x'.blk p,a∈x.blk p∨w.heap.size≤a):=by
 obtain⟨x',i,f,n⟩:=s
 refine⟨x',⟨i,h.b.off_fr f h.ap,fun c hc hm=> ?_⟩,f,n⟩
 rcases n c hc with k|k
 · exact h.ap c k hm
 · have:=(h.b.blk_lo c hm).2
   omega
theorem I2.right (h:I2 B w p x q p2 y r) {r':QR} (s:XStp B w p2 y r' w'):∃y',I2 B w' p x q p2 y' r'∧Fr (y.blk p2) w w'∧(∀a∈y'.blk p2,a∈y.blk p2∨w.heap.size≤a):=by
 obtain⟨y',i,f,n⟩:=h.symm.left s
 exact⟨y',i.symm,f,n⟩
theorem I2.made {w1:World} (h:IX B w p x q) (k:IX w.heap.size w1 p2 y r) (e:Ext w w1) (hB:B≤w.heap.size):I2 B w1 p x q p2 y r:=
 ⟨h.ext e,k.lower hB,fun c hc hm=>by have:=(h.blk_lo c hc).2;have:=(k.blk_lo c hm).1;omega⟩
end
def SrX (s:SR) (V:Value) (w:World):Prop:=∃b vi vd vc,V=srV s vi vd vc∧SrO b w s vi vd vc
def RsX (s:SR) (V:Value) (w:World):Prop:=∃b x y z,V=srV s x y z∧RSt b w s x y z
theorem SrX.ext {s:SR} {V:Value} {w w':World} (h:SrX s V w) (k:Ext w w'):SrX s V w':=by
 obtain⟨b,vi,vd,vc,e,h⟩:=h
 exact⟨b,vi,vd,vc,e,h.ext k⟩
theorem RsX.ext {s:SR} {V:Value} {w w':World} (h:RsX s V w) (k:Ext w w'):RsX s V w':=by
 obtain⟨b,x,y,z,e,h⟩:=h
 exact⟨b,x,y,z,e,h.ext k⟩
theorem st_val {B n:Nat} {w:World} {p:Nat} {x:XP} {q:QR} (h:IX B w p x q) (hq:XQ n q) (ht:TB w) {s:SR} (hs:stateQ q=s):
 Calls Tryz.prog 23 #[pv p] w fun e w'=>(∃V,e= .returned V∧SrX s V w')∧Ext w w':=
 (st_any h hq ht hs).mono fun e w' ⟨⟨vi,vd,vc,he,ho⟩,hx⟩=>⟨⟨_,he,_,vi,vd,vc,rfl,ho⟩,hx⟩
theorem lst_val {w:World} {s:SR} {V:Value} (h:SrX s V w) (hs:SmS s):
 Calls Tryz.prog 22 #[V] w fun e w'=>(∃V',e= .returned V'∧RsX s V' w')∧Ext w w':=by
 obtain⟨b,vi,vd,vc,rfl,ho⟩:=h
 exact(lst_any ho hs).mono fun e w' ⟨⟨x,y,z,he,hr⟩,hx⟩=>⟨⟨_,he,_,x,y,z,rfl,hr⟩,hx⟩
theorem rsame_val {w:World} {s:SR} {U V:Value} (h:RsX s U w) (k:RsX s V w) (hs:SmS s):
 Calls Tryz.prog 21 #[U,V] w fun e w'=>e= .returned (.bool true)∧Ext w w':=by
 obtain⟨b,x,y,z,rfl,hr⟩:=h
 obtain⟨b2,x2,y2,z2,rfl,hr2⟩:=k
 exact rsame11_eq hr hr2 (by have:=hs.it;omega)
def FrmX (B n:Nat) (q:QR) (X:Nat) (w:World):Prop:=∃y r,IX B w X y r∧MadeR n q.lanes q.pay q.del (stateQ q) r
theorem FrmX.ext {B n:Nat} {q:QR} {X:Nat} {w w':World} (h:FrmX B n q X w) (k:Ext w w'):FrmX B n q X w':=by
 obtain⟨y,r,a,b⟩:=h
 exact⟨y,r,a.ext k,b⟩
theorem FrmX.low {B B' n:Nat} {q:QR} {X:Nat} {w:World} (h:FrmX B n q X w) (k:B'≤B):FrmX B' n q X w:=by
 obtain⟨y,r,a,b⟩:=h
 exact⟨y,r,a.lower k,b⟩
theorem from_val {n:Nat} {w:World} {q:QR} {V:Value} (hs:XQ n q) (hn:n≤4611686018427387904) (h:SrX (stateQ q) V w) (ht:TB w):
 Calls Tryz.prog 28 #[ccV q.lanes q.pay q.del,V] w fun e w'=>(∃X,e= .returned (.tuple #[pv X,.int .i64 0])∧FrmX w.heap.size n q X w')∧Ext w w':=by
 obtain⟨b,vi,vd,vc,rfl,h⟩:=h
 obtain⟨o1,k1,rfl⟩:=row_shape h.it
 obtain⟨o2,k2,rfl⟩:=row_shape h.dd
 obtain⟨o3,k3,rfl⟩:=row_shape h.cu
 refine(ifrom_any n q.lanes q.pay q.del (Sl.of_owns h.it) (Sl.of_owns h.dd) (Sl.of_owns h.cu) ht (by have:=dead_len hs.wi.wq hs.wi.wd;omega) (state_curs hs.wi.wd) (fun _=>⟨hs.wi.lo.le,hs.wi.lo.tu,hs.wi.lo.de⟩)).mono ?_
 rintro e w' ⟨hf,hx⟩
 rw[state_ok hs hn,hs.wi.wq.right,if_pos (by rfl)] at hf
 obtain⟨X,x,r,rfl,hI,hM⟩:=hf
 exact⟨⟨X,rfl,x,r,hI,hM⟩,hx⟩
end Go.Proofs.YtcfgafododiioaaGreatDoor
namespace Go.Proofs.YtcfgafododiioaaGreatDoor
open Go Go.RowKit Go.Tum Go.ChangeMaps Go.Sort
def Set3 (q r:QR):Prop:=r.lanes=q.lanes∧r.pay=q.pay∧r.del=q.del
theorem Set3.refl (q:QR):Set3 q q:=⟨rfl,rfl,rfl⟩
theorem Set3.trans {a b c:QR} (h:Set3 a b) (k:Set3 b c):Set3 a c:=⟨k.1.trans h.1,k.2.1.trans h.2.1,k.2.2.trans h.2.2⟩
theorem Set3.bec (q:QR) (z:It) (l:L):Set3 q (becQ q z l):=by
 obtain⟨a1,a2,a3,-⟩:=becQ_same q z l
 exact⟨a1,a2,a3⟩
theorem Set3.tickL:∀(k:Nat) (q:QR),Set3 q (Go.Proofs.YtcfgafododiioaaGreatDoor.tickL k q).2
 |0,q=>Set3.refl q
 |k+1,q=>by
  unfold Go.Proofs.YtcfgafododiioaaGreatDoor.tickL
  split
  · exact Set3.refl q
  · exact(Set3.bec q _ _).trans (Set3.tickL k _)
theorem Set3.resL (d:Int):∀(l:List It) (q:QR),Set3 q (Go.Proofs.YtcfgafododiioaaGreatDoor.resL d l q)
 |[],q=>Set3.refl q
 |z::r,q=>by
  unfold Go.Proofs.YtcfgafododiioaaGreatDoor.resL
  exact(Set3.bec q _ _).trans (Set3.resL d r _)
theorem Set3.with (q:QR) (t:UInt64) (f:L→L×Int):Set3 q (withQ q t f).2.2:=by
 unfold withQ
 split
 · exact Set3.refl q
 · dsimp only
   split
   · exact Set3.refl q
   · exact Set3.bec q _ _
theorem Set3.dead (q:QR) (i:UInt64) (s:Int):Set3 q (deadQ q i s).2:=by
 unfold deadQ
 dsimp only
 split
 · exact Set3.refl q
 · exact Set3.bec q _ _
theorem Set3.actB (q:QR) (a:Ai):∀k:Kd,Set3 q (Go.Proofs.YtcfgafododiioaaGreatDoor.actB q a k).2
 | .a0=>by
  rw[actB0]
  show Set3 q (putQ q a.lane a.n a.sg a.ps a.size).2.2
  unfold putQ
  split
  · exact Set3.refl q
  split
  · exact Set3.refl q
  split
  · exact Set3.refl q
  split
  · exact Set3.refl q
  exact Set3.bec q _ _
 | .a1=>by
  rw[actB1]
  show Set3 q (leaseQ q a.lane a.n).2.2
  unfold leaseQ
  split
  · exact Set3.refl q
  split
  · exact Set3.refl q
  dsimp only
  split
  · exact Set3.refl q
  exact Set3.bec {q with leases:=q.leases+1} _ _
 | .a2=>by rw[actB2];exact Set3.with q _ _
 | .a3=>by rw[actB3];exact Set3.with q _ _
 | .a4=>by rw[actB4];exact Set3.with q _ _
 | .a5=>by
  have hk:Set3 q (tickQ q a.n).2.2:=by
   unfold tickQ
   split
   · exact Set3.refl q
   · have:=Set3.tickL 201 {q with now:=q.now+a.n}
     generalize Go.Proofs.YtcfgafododiioaaGreatDoor.tickL 201 {q with now:=q.now+a.n}=T at this⊢
     exact this
  obtain⟨T,hT⟩:∃T,tickQ q a.n=T:=⟨_,rfl⟩
  rw[actB5,hT]
  rw[hT] at hk
  exact hk
 | .a6=>by rw[actB6];exact Set3.dead q _ _
 | .a7=>by rw[actB7];exact Set3.dead q _ _
 | .a8=>by rw[actB8];exact Set3.refl q
 | .a9=>by rw[actB9];exact Set3.resL _ _ q
 | .a10=>by rw[actB10];exact Set3.refl q
 | .a11=>by rw[actB11];exact Set3.refl q
theorem Set3.act (q:QR) (a:Ai):Set3 q (actI q a).2:=Set3.actB q a _
theorem act_tick (q:QR) (t:UInt64) {T:Nat×Int×QR} (hT:tickQ q t=T):actI q ⟨5,0,0,0,t,[],0,0,0⟩=({an0 with many:=(T.1:Int),e:=T.2.1},T.2.2):=by
 show actB q _ (kindI _)=_
 rw[show kindI ⟨5,0,0,0,t,[],0,0,0⟩=Kd.a5 by unfold kindI;simp,actB5]
 dsimp only
 rw[hT]
theorem act_tick2 {N:Nat} {q:QR} (h:XQ N q) (hN:N+300≤5000000000000000000) (t:UInt64) {T:Nat×Int×QR} (hT:tickQ q t=T):XQ (N+300) T.2.2:=by
 have:=h.act hN ⟨5,0,0,0,t,[],0,0,0⟩
 rw[act_tick q t hT] at this
 exact this
end Go.Proofs.YtcfgafododiioaaGreatDoor
set_option maxRecDepth 100000
namespace Go.Proofs.YtcfgafododiioaaGreatDoor
open Go Go.RowKit Go.Tum Go.ChangeMaps Go.Sort Go.Tum.Rn Go.WideShapes Go.ChangeShapes Go.Deep
open Go.ParB (upd Lof)
open Go.ParE (putS slotsR slots Closed)
theorem cellsItS:Tryz.prog.cellsOf 79=10:=by kernel_rfl
theorem cellsLfS:Tryz.prog.cellsOf 77=4:=by kernel_rfl
theorem cellsRwS:Tryz.prog.cellsOf 96=2:=by kernel_rfl
theorem cellsCrS:Tryz.prog.cellsOf 123=2:=by kernel_rfl
theorem cellsStS:Tryz.prog.cellsOf 63=8:=by kernel_rfl
theorem cellsSlI:Tryz.prog.cellsOf 59=1:=by kernel_rfl
theorem cellsSlR:Tryz.prog.cellsOf 60=1:=by kernel_rfl
theorem cellsSlC:Tryz.prog.cellsOf 61=1:=by kernel_rfl
theorem list10 {α:Type} {l:List α} (h:l.length=10):∃a b c d e f g i j k,l=[a,b,c,d,e,f,g,i,j,k]:=by
 match l,h with
 |[a,b,c,d,e,f,g,i,j,k],_=>exact⟨a,b,c,d,e,f,g,i,j,k,rfl⟩
theorem list2 {α:Type} {l:List α} (h:l.length=2):∃a b,l=[a,b]:=by
 match l,h with
 |[a,b],_=>exact⟨a,b,rfl⟩
section
variable {H : Type} {enc : TypeId × Value → H} {w : World} {base : Nat} {held : Bool}
theorem open_lifeS {fuel:Nat} {c0 c1 c2 c3:Value} {x:DataW H×List MemPlace} (hf:DataW.trod enc Tryz.prog w base (fun _=>true) held fuel 77 [c0,c1,c2,c3]=some x):
 ∃(st ct:Int) (du tk:UInt64),[c0,c1,c2,c3]=[.int .i64 st,.int .i64 ct,vU du,vU tk]:=by
 obtain⟨ys,n',-,-,-,hyl,hfj⟩:=DataW.trod_struct Tryz.underlying77 hf
 have t0:DataW.trod enc Tryz.prog w base (fun _=>true) held n' 3 (([c0,c1,c2,c3].drop 0).take (Tryz.prog.cellsOf 3))=ys[0]? :=hfj 0 _ rfl
 have t1:DataW.trod enc Tryz.prog w base (fun _=>true) held n' 3 (([c0,c1,c2,c3].drop 1).take (Tryz.prog.cellsOf 3))=ys[1]? :=hfj 1 _ rfl
 have t2:DataW.trod enc Tryz.prog w base (fun _=>true) held n' 36 (([c0,c1,c2,c3].drop 2).take (Tryz.prog.cellsOf 36))=ys[2]? :=hfj 2 _ rfl
 have t3:DataW.trod enc Tryz.prog w base (fun _=>true) held n' 36 (([c0,c1,c2,c3].drop 3).take (Tryz.prog.cellsOf 36))=ys[3]? :=hfj 3 _ rfl
 have hyl:ys.length=4:=hyl
 rw[cellsIx] at t0 t1
 rw[cellsUx] at t2 t3
 have g0:DataW.trod enc Tryz.prog w base (fun _=>true) held n' 3 [c0]=_:=t0.trans (List.getElem?_eq_getElem (show 0<ys.length by omega))
 have g1:DataW.trod enc Tryz.prog w base (fun _=>true) held n' 3 [c1]=_:=t1.trans (List.getElem?_eq_getElem (show 1<ys.length by omega))
 have g2:DataW.trod enc Tryz.prog w base (fun _=>true) held n' 36 [c2]=_:=t2.trans (List.getElem?_eq_getElem (show 2<ys.length by omega))
 have g3:DataW.trod enc Tryz.prog w base (fun _=>true) held n' 36 [c3]=_:=t3.trans (List.getElem?_eq_getElem (show 3<ys.length by omega))
 obtain⟨z0,e0,-,w0⟩:=DataW.trod_int Tryz.underlying3 g0
 obtain⟨z1,e1,-,w1⟩:=DataW.trod_int Tryz.underlying3 g1
 obtain⟨z2,e2,-,w2⟩:=DataW.trod_int Tryz.underlying36 g2
 obtain⟨z3,e3,-,w3⟩:=DataW.trod_int Tryz.underlying36 g3
 obtain⟨u2,rfl⟩:=u64_of w2
 obtain⟨u3,rfl⟩:=u64_of w3
 simp only[List.cons.injEq,and_true] at e0 e1 e2 e3
 subst e0 e1 e2 e3
 exact⟨z0,z1,u2,u3,rfl⟩
theorem open_itemsS {fuel:Nat} {v:Value} {x:DataW H×List MemPlace} (hf:DataW.trod enc Tryz.prog w base (fun _=>true) held fuel 59 [v]=some x):∃m:List It,Sl w 10 v m.length (m.flatMap itE):=by
 rcases open_slice Tryz.underlying59 hf with ⟨h0,_⟩|⟨a,len,cap,m,n0,D,Pl,hcs,hb,hl,hm,hmm,hx,hi⟩
 · simp at h0
   subst h0
   exact⟨[],Sl.nil _ _⟩
 · simp at hcs
   subst hcs
   simp at hmm
   subst hmm
   have hrow:∀i,i<len→∃q:It,∀j u,(itE q)[j]? =some u→w.cell? (a.add (i*10+j))=some u:=by
    intro i hil
    obtain⟨cs',hc,htr⟩:=hi i (by omega)
    rw[cellsItS] at hc
    obtain⟨_,hcl,hat⟩:=World.cells?_some hc
    obtain⟨ys,n',-,-,-,hyl,hfj⟩:=DataW.trod_struct Tryz.underlying79 htr
    obtain⟨c0,c1,c2,c3,c4,c5,c6,c7,c8,c9,rfl⟩:=list10 hcl
    have hcell:∀j u,[c0,c1,c2,c3,c4,c5,c6,c7,c8,c9][j]? =some u→w.cell? (a.add (i*10+j))=some u:=by
     intro j u hu
     have hj:j<10:=(List.getElem?_eq_some_iff.1 hu).1
     have h1:=hat j hj
     rw[Go.Deep.add_add] at h1
     rw[h1,hu]
    have t0:DataW.trod enc Tryz.prog w base (fun _=>true) held n' 36 (([c0,c1,c2,c3,c4,c5,c6,c7,c8,c9].drop 0).take (Tryz.prog.cellsOf 36))=ys[0]? :=hfj 0 _ rfl
    have t1:DataW.trod enc Tryz.prog w base (fun _=>true) held n' 3 (([c0,c1,c2,c3,c4,c5,c6,c7,c8,c9].drop 1).take (Tryz.prog.cellsOf 3))=ys[1]? :=hfj 1 _ rfl
    have t2:DataW.trod enc Tryz.prog w base (fun _=>true) held n' 77 (([c0,c1,c2,c3,c4,c5,c6,c7,c8,c9].drop 2).take (Tryz.prog.cellsOf 77))=ys[2]? :=hfj 2 _ rfl
    have t3:DataW.trod enc Tryz.prog w base (fun _=>true) held n' 36 (([c0,c1,c2,c3,c4,c5,c6,c7,c8,c9].drop 6).take (Tryz.prog.cellsOf 36))=ys[3]? :=hfj 3 _ rfl
    have t4:DataW.trod enc Tryz.prog w base (fun _=>true) held n' 38 (([c0,c1,c2,c3,c4,c5,c6,c7,c8,c9].drop 7).take (Tryz.prog.cellsOf 38))=ys[4]? :=hfj 4 _ rfl
    have hyl:ys.length=5:=hyl
    rw[cellsUx] at t0 t3
    rw[cellsIx] at t1
    rw[cellsLfS] at t2
    rw[cellsWh] at t4
    have g0:DataW.trod enc Tryz.prog w base (fun _=>true) held n' 36 [c0]=_:=t0.trans (List.getElem?_eq_getElem (show 0<ys.length by omega))
    have g1:DataW.trod enc Tryz.prog w base (fun _=>true) held n' 3 [c1]=_:=t1.trans (List.getElem?_eq_getElem (show 1<ys.length by omega))
    have g2:DataW.trod enc Tryz.prog w base (fun _=>true) held n' 77 [c2,c3,c4,c5]=_:=t2.trans (List.getElem?_eq_getElem (show 2<ys.length by omega))
    have g3:DataW.trod enc Tryz.prog w base (fun _=>true) held n' 36 [c6]=_:=t3.trans (List.getElem?_eq_getElem (show 3<ys.length by omega))
    have g4:DataW.trod enc Tryz.prog w base (fun _=>true) held n' 38 [c7,c8,c9]=_:=t4.trans (List.getElem?_eq_getElem (show 4<ys.length by omega))
    obtain⟨z0,e0,-,w0⟩:=DataW.trod_int Tryz.underlying36 g0
    obtain⟨z1,e1,-,w1⟩:=DataW.trod_int Tryz.underlying3 g1
    obtain⟨st,ct,du,tk,e2⟩:=open_lifeS g2
    obtain⟨z3,e3,-,w3⟩:=DataW.trod_int Tryz.underlying36 g3
    obtain⟨sg,ps,sz,e4⟩:=open_where g4
    obtain⟨u0,rfl⟩:=u64_of w0
    obtain⟨u3,rfl⟩:=u64_of w3
    simp only[List.cons.injEq,and_true] at e0 e1 e2 e3 e4
    obtain⟨rfl,rfl,rfl,rfl⟩:=e2
    obtain⟨rfl,rfl,rfl⟩:=e4
    subst e0 e1 e3
    exact⟨⟨u0,z1,st,ct,du,tk,u3,sg,ps,sz⟩,fun j u hu=>hcell j u hu⟩
   obtain⟨q,hq,hQ⟩:=list_of len hrow
   exact⟨q,(RowsOf.mk' (c:=itE) hq hl hm (by decide) (fun _ _=>rfl) (fun i h j u hu=>hQ i h j u hu)).2⟩
theorem open_rowsS {fuel:Nat} {v:Value} {x:DataW H×List MemPlace} (hf:DataW.trod enc Tryz.prog w base (fun _=>true) held fuel 60 [v]=some x):∃m:List (UInt64×UInt64),Sl w 2 v m.length (m.flatMap encR):=by
 rcases open_slice Tryz.underlying60 hf with ⟨h0,_⟩|⟨a,len,cap,m,n0,D,Pl,hcs,hb,hl,hm,hmm,hx,hi⟩
 · simp at h0
   subst h0
   exact⟨[],Sl.nil _ _⟩
 · simp at hcs
   subst hcs
   simp at hmm
   subst hmm
   have hrow:∀i,i<len→∃q:UInt64×UInt64,∀j u,(encR q)[j]? =some u→w.cell? (a.add (i*2+j))=some u:=by
    intro i hil
    obtain⟨cs',hc,htr⟩:=hi i (by omega)
    rw[cellsRwS] at hc
    obtain⟨_,hcl,hat⟩:=World.cells?_some hc
    obtain⟨ys,n',-,-,-,hyl,hfj⟩:=DataW.trod_struct Tryz.underlying96 htr
    obtain⟨c0,c1,rfl⟩:=list2 hcl
    have hcell:∀j u,[c0,c1][j]? =some u→w.cell? (a.add (i*2+j))=some u:=by
     intro j u hu
     have hj:j<2:=(List.getElem?_eq_some_iff.1 hu).1
     have h1:=hat j hj
     rw[Go.Deep.add_add] at h1
     rw[h1,hu]
    have k0:=hcell 0 c0 rfl
    have k1:=hcell 1 c1 rfl
    have t0:DataW.trod enc Tryz.prog w base (fun _=>true) held n' 36 (([c0,c1].drop 0).take (Tryz.prog.cellsOf 36))=ys[0]? :=hfj 0 _ rfl
    have t1:DataW.trod enc Tryz.prog w base (fun _=>true) held n' 36 (([c0,c1].drop 1).take (Tryz.prog.cellsOf 36))=ys[1]? :=hfj 1 _ rfl
    have hyl:ys.length=2:=hyl
    rw[cellsUx] at t0
    rw[cellsUx] at t1
    replace t0:DataW.trod enc Tryz.prog w base (fun _=>true) held n' 36 [c0]=_:=t0.trans (List.getElem?_eq_getElem (show 0<ys.length by omega))
    replace t1:DataW.trod enc Tryz.prog w base (fun _=>true) held n' 36 [c1]=_:=t1.trans (List.getElem?_eq_getElem (show 1<ys.length by omega))
    obtain⟨z0,e,-,hw0⟩:=DataW.trod_int Tryz.underlying36 t0
    simp at e;subst e
    obtain⟨x0,rfl⟩:=u64_of hw0
    obtain⟨z1,e,-,hw1⟩:=DataW.trod_int Tryz.underlying36 t1
    simp at e;subst e
    obtain⟨x1,rfl⟩:=u64_of hw1
    refine⟨(x0,x1),fun j u hu=> ?_⟩
    match j,hu with
    |0,hu=>simp at hu;subst hu;exact k0
    |1,hu=>simp at hu;subst hu;exact k1
   obtain⟨q,hq,hQ⟩:=list_of len hrow
   exact⟨q,(RowsOf.mk' (c:=encR) hq hl hm (by decide) (fun _ _=>rfl) (fun i h j u hu=>hQ i h j u hu)).2⟩
theorem open_cursS {fuel:Nat} {v:Value} {x:DataW H×List MemPlace} (hf:DataW.trod enc Tryz.prog w base (fun _=>true) held fuel 61 [v]=some x):∃m:List Cur,Sl w 2 v m.length (m.flatMap encC)∧∀q∈m,q.1.length≤maxLen:=by
 rcases open_slice Tryz.underlying61 hf with ⟨h0,_⟩|⟨a,len,cap,m,n0,D,Pl,hcs,hb,hl,hm,hmm,hx,hi⟩
 · simp at h0
   subst h0
   exact⟨[],Sl.nil _ _,fun p h=>absurd h (by simp)⟩
 · simp at hcs
   subst hcs
   simp at hmm
   subst hmm
   have hrow:∀i,i<len→∃q:Cur,q.1.length≤maxLen∧∀j u,(encC q)[j]? =some u→w.cell? (a.add (i*2+j))=some u:=by
    intro i hil
    obtain⟨cs',hc,htr⟩:=hi i (by omega)
    rw[cellsCrS] at hc
    obtain⟨_,hcl,hat⟩:=World.cells?_some hc
    obtain⟨ys,n',-,-,-,hyl,hfj⟩:=DataW.trod_struct Tryz.underlying123 htr
    obtain⟨c0,c1,rfl⟩:=list2 hcl
    have hcell:∀j u,[c0,c1][j]? =some u→w.cell? (a.add (i*2+j))=some u:=by
     intro j u hu
     have hj:j<2:=(List.getElem?_eq_some_iff.1 hu).1
     have h1:=hat j hj
     rw[Go.Deep.add_add] at h1
     rw[h1,hu]
    have k0:=hcell 0 c0 rfl
    have k1:=hcell 1 c1 rfl
    have t0:DataW.trod enc Tryz.prog w base (fun _=>true) held n' 9 (([c0,c1].drop 0).take (Tryz.prog.cellsOf 9))=ys[0]? :=hfj 0 _ rfl
    have t1:DataW.trod enc Tryz.prog w base (fun _=>true) held n' 36 (([c0,c1].drop 1).take (Tryz.prog.cellsOf 36))=ys[1]? :=hfj 1 _ rfl
    have hyl:ys.length=2:=hyl
    rw[cellsSx] at t0
    rw[cellsUx] at t1
    replace t0:DataW.trod enc Tryz.prog w base (fun _=>true) held n' 9 [c0]=_:=t0.trans (List.getElem?_eq_getElem (show 0<ys.length by omega))
    replace t1:DataW.trod enc Tryz.prog w base (fun _=>true) held n' 36 [c1]=_:=t1.trans (List.getElem?_eq_getElem (show 1<ys.length by omega))
    obtain⟨s0,e,-,hs0⟩:=DataW.trod_string Tryz.underlying9 t0
    simp at e;subst e
    obtain⟨z1,e,-,hw1⟩:=DataW.trod_int Tryz.underlying36 t1
    simp at e;subst e
    obtain⟨x1,rfl⟩:=u64_of hw1
    refine⟨(s0.data.toList,x1),nmI_len hs0,fun j u hu=> ?_⟩
    match j,hu with
    |0,hu=>simp at hu;subst hu;rw[nmI_of s0] at k0;exact k0
    |1,hu=>simp at hu;subst hu;exact k1
   obtain⟨q,hq,hQ⟩:=list_of len hrow
   refine⟨q,(RowsOf.mk' (c:=encC) hq hl hm (by decide) (fun _ _=>rfl) (fun i h j u hu=>(hQ i h).2 j u hu)).2,fun z hz=> ?_⟩
   obtain⟨i,hil,rfl⟩:=List.mem_iff_getElem.1 hz
   exact(hQ i hil).1
structure StI (w:World) (v:Value) (s:SR):Prop where
 ex:∃ao bo co cap cb cc,v=srV s (.slice ao s.items.length cap) (.slice bo s.dead.length cb) (.slice co s.curs.length cc)∧Sl w 10 (.slice ao s.items.length cap) s.items.length (s.items.flatMap itE)∧
  Sl w 2 (.slice bo s.dead.length cb) s.dead.length (s.dead.flatMap encR)∧Sl w 2 (.slice co s.curs.length cc) s.curs.length (s.curs.flatMap encC)
 nm:∀z∈s.curs,z.1.length≤maxLen
theorem sl_shape {w:World} {sz n:Nat} {v:Value} {l:List Value} (h:Sl w sz v n l):∃o c,v= .slice o n c:=by
 obtain⟨-,o,c,e,-⟩:=h
 exact⟨o,c,e⟩
theorem open_stateS {v:Value} {d:DataW H} {p:List MemPlace} {r:Reach} {b0:Nat} (hval:Value.okWide Tryz.prog w r b0 63 v) (h:DataW.Trod enc Tryz.prog w base (fun _=>true) held 63 v d p):∃s:SR,StI w v s:=by
 obtain⟨cs,rfl,hsz⟩:=okWide_struct Tryz.underlying63 hval
 have hsz:=hsz.trans cellsStS
 obtain⟨c0,c1,c2,c3,c4,c5,c6,c7,rfl⟩:∃a b c d e f g i,cs= #[a,b,c,d,e,f,g,i]:=by
  obtain⟨l⟩:=cs
  match l,hsz with
  |[a,b,c,d,e,f,g,i],_=>exact⟨a,b,c,d,e,f,g,i,rfl⟩
 obtain⟨fuel,hf⟩:=h
 replace hf:DataW.trod enc Tryz.prog w base (fun _=>true) held fuel 63 [c0,c1,c2,c3,c4,c5,c6,c7]=some (d,p):=hf
 obtain⟨ys,n',-,-,-,hyl,hfj⟩:=DataW.trod_struct Tryz.underlying63 hf
 have hu:∀(j:Nat) (hj:j<5),DataW.trod enc Tryz.prog w base (fun _=>true) held n' 36 (([c0,c1,c2,c3,c4,c5,c6,c7].drop j).take 1)=ys[j]? :=by
  intro j hj
  rw[←cellsUx]
  match j,hj with
  |0,_=>exact hfj 0 _ rfl
  |1,_=>exact hfj 1 _ rfl
  |2,_=>exact hfj 2 _ rfl
  |3,_=>exact hfj 3 _ rfl
  |4,_=>exact hfj 4 _ rfl
 have t5:DataW.trod enc Tryz.prog w base (fun _=>true) held n' 59 (([c0,c1,c2,c3,c4,c5,c6,c7].drop 5).take (Tryz.prog.cellsOf 59))=ys[5]? :=hfj 5 _ rfl
 have t6:DataW.trod enc Tryz.prog w base (fun _=>true) held n' 60 (([c0,c1,c2,c3,c4,c5,c6,c7].drop 6).take (Tryz.prog.cellsOf 60))=ys[6]? :=hfj 6 _ rfl
 have t7:DataW.trod enc Tryz.prog w base (fun _=>true) held n' 61 (([c0,c1,c2,c3,c4,c5,c6,c7].drop 7).take (Tryz.prog.cellsOf 61))=ys[7]? :=hfj 7 _ rfl
 have hyl:ys.length=8:=hyl
 rw[cellsSlI] at t5
 rw[cellsSlR] at t6
 rw[cellsSlC] at t7
 have g0:DataW.trod enc Tryz.prog w base (fun _=>true) held n' 36 [c0]=_:=(hu 0 (by decide)).trans (List.getElem?_eq_getElem (show 0<ys.length by omega))
 have g1:DataW.trod enc Tryz.prog w base (fun _=>true) held n' 36 [c1]=_:=(hu 1 (by decide)).trans (List.getElem?_eq_getElem (show 1<ys.length by omega))
 have g2:DataW.trod enc Tryz.prog w base (fun _=>true) held n' 36 [c2]=_:=(hu 2 (by decide)).trans (List.getElem?_eq_getElem (show 2<ys.length by omega))
 have g3:DataW.trod enc Tryz.prog w base (fun _=>true) held n' 36 [c3]=_:=(hu 3 (by decide)).trans (List.getElem?_eq_getElem (show 3<ys.length by omega))
 have g4:DataW.trod enc Tryz.prog w base (fun _=>true) held n' 36 [c4]=_:=(hu 4 (by decide)).trans (List.getElem?_eq_getElem (show 4<ys.length by omega))
 have g5:DataW.trod enc Tryz.prog w base (fun _=>true) held n' 59 [c5]=_:=t5.trans (List.getElem?_eq_getElem (show 5<ys.length by omega))
 have g6:DataW.trod enc Tryz.prog w base (fun _=>true) held n' 60 [c6]=_:=t6.trans (List.getElem?_eq_getElem (show 6<ys.length by omega))
 have g7:DataW.trod enc Tryz.prog w base (fun _=>true) held n' 61 [c7]=_:=t7.trans (List.getElem?_eq_getElem (show 7<ys.length by omega))
 obtain⟨z0,e0,-,w0⟩:=DataW.trod_int Tryz.underlying36 g0
 obtain⟨z1,e1,-,w1⟩:=DataW.trod_int Tryz.underlying36 g1
 obtain⟨z2,e2,-,w2⟩:=DataW.trod_int Tryz.underlying36 g2
 obtain⟨z3,e3,-,w3⟩:=DataW.trod_int Tryz.underlying36 g3
 obtain⟨z4,e4,-,w4⟩:=DataW.trod_int Tryz.underlying36 g4
 obtain⟨u0,rfl⟩:=u64_of w0
 obtain⟨u1,rfl⟩:=u64_of w1
 obtain⟨u2,rfl⟩:=u64_of w2
 obtain⟨u3,rfl⟩:=u64_of w3
 obtain⟨u4,rfl⟩:=u64_of w4
 simp only[List.cons.injEq,and_true] at e0 e1 e2 e3 e4
 subst e0 e1 e2 e3 e4
 obtain⟨m5,h5⟩:=open_itemsS g5
 obtain⟨m6,h6⟩:=open_rowsS g6
 obtain⟨m7,h7,h8⟩:=open_cursS g7
 obtain⟨o5,k5,rfl⟩:=sl_shape h5
 obtain⟨o6,k6,rfl⟩:=sl_shape h6
 obtain⟨o7,k7,rfl⟩:=sl_shape h7
 exact⟨⟨u0,u1,u2,u3,u4,m5,m6,m7⟩,⟨o5,o6,o7,k5,k6,k7,rfl,h5,h6,h7⟩,h8⟩
end
theorem StI.ext {w w':World} {v:Value} {s:SR} (h:StI w v s) (k:Ext w w'):StI w' v s:=by
 obtain⟨⟨ao,bo,co,cap,cb,cc,e,h1,h2,h3⟩,hn⟩:=h
 exact⟨⟨ao,bo,co,cap,cb,cc,e,h1.ext k,h2.ext k,h3.ext k⟩,hn⟩
structure SmI (s:SR):Prop where
 it:s.items.length≤220
 dd:s.dead.length≤220
 cu:s.curs.length≤20
 nm:∀z∈s.curs,z.1.length≤100
set_option maxHeartbeats 1000000 in
theorem largeState_any {w:World} {v:Value} {s:SR} (h:StI w v s):Calls Tryz.prog 27 #[v] w fun e w'=>(∃r,e= .returned (.bool r)∧(r=false→SmI s))∧Ext w w':=by
 obtain⟨⟨ao,bo,co,cap,cb,cc,rfl,h1,h2,h3⟩,hn⟩:=h
 obtain⟨W1,hW1⟩:∃W,w.alloc (.cells (srC s (.slice ao s.items.length cap) (.slice bo s.dead.length cb) (.slice co s.curs.length cc)) 63 (0,0))=W:=⟨_,rfl⟩
 have e1:Ext w W1:=by rw[←hW1];exact Ext.alloc _ _
 have b1:W1.heap[w.heap.size]? =some (.cells (srC s (.slice ao s.items.length cap) (.slice bo s.dead.length cb) (.slice co s.curs.length cc)) 63 (0,0)):=by rw[←hW1];exact heap_alloc_new _ _
 have H3:=hid (h3.ext e1)
 have HN:=hid hn
 have HE:=hid e1
 obtain⟨d0,d1,d2,d3,d4,d5,d6,d7,-⟩:=blk8 b1
 clear h1 h2 h3 hn e1 b1
 go_enter Tryz.func27,Tryz.ntmps27
 by_cases k1:220<s.items.length
 · have hd1:decide ((220:Int)<(s.items.length:Int))=true:=by simp;omega
   clear k1
   go_wp2
   go_returns
   exact⟨⟨true,rfl,fun h=>by cases h⟩,HE.out⟩
 have hd1:decide ((220:Int)<(s.items.length:Int))=false:=by simp;omega
 have K1:=hid k1
 clear k1
 by_cases k2:220<s.dead.length
 · have hd2:decide ((220:Int)<(s.dead.length:Int))=true:=by simp;omega
   clear k2
   go_wp2
   go_returns
   exact⟨⟨true,rfl,fun h=>by cases h⟩,HE.out⟩
 have hd2:decide ((220:Int)<(s.dead.length:Int))=false:=by simp;omega
 have K2:=hid k2
 clear k2
 by_cases k3:20<s.curs.length
 · have hd3:decide ((20:Int)<(s.curs.length:Int))=true:=by simp;omega
   clear k3
   go_wp2
   go_returns
   exact⟨⟨true,rfl,fun h=>by cases h⟩,HE.out⟩
 have hd3:decide ((20:Int)<(s.curs.length:Int))=false:=by simp;omega
 have K3:=hid k3
 clear k3
 go_wp2
 clear hW1 d0 d1 d2 d3 d4 d5 d6 d7 hd1 hd2 hd3
 go_loopw [24] (fun i wr=>∃k:Nat,k≤s.curs.length∧i= .int .i64 (k:Int)∧Hid (Ext W1 wr)∧Hid (∀z∈s.curs.take k,z.1.length≤100)) (fun i _=>s.curs.length - (intOf i).toNat)
 case atStart=>exact⟨0,Nat.zero_le _,rfl,hid (Ext.refl _),hid (by simp)⟩
 case round=>
  obtain⟨k,hk,rfl,HX,HM⟩:=hrel
  by_cases hlt:k<s.curs.length
  · have hi1:decide ((k:Int)<(s.curs.length:Int))=true:=by simp;omega
    obtain⟨a,rfl⟩:∃a,co=some a:=by
     cases co with
     |none=>
      obtain⟨h1,-,h3,-⟩:=Sl.cells H3.out
      have:=h3 rfl
      omega
     |some a=>exact⟨a,rfl⟩
    obtain⟨z,hz⟩:∃z,s.curs[k]=z:=⟨_,rfl⟩
    have hz2:s.curs[k]? =some z:=by rw[List.getElem?_eq_getElem hlt,hz]
    obtain⟨r0,r1⟩:=row2 (f1:=fun z:Cur=>vN z.1) (f2:=fun z=>vU z.2) (H3.out.ext HX.out) hz2
    have HLT:=hid hlt
    have HTK:Hid (s.curs.take (k+1)=s.curs.take k++[z]):=hid (by rw[List.take_succ_eq_append_getElem hlt,hz])
    have hnz:=HN.out z (by rw[←hz];exact List.getElem_mem hlt)
    obtain⟨z1,z2⟩:=z
    dsimp only at r0 r1 hnz
    obtain⟨w3,hw3⟩:∃W,wr.alloc (.cells #[vN z1,vU z2] 123 (0,0))=W:=⟨_,rfl⟩
    have e3:Ext wr w3:=by rw[←hw3];exact Ext.alloc _ _
    obtain⟨d0,d1,-⟩:=lk2 (show w3.heap[wr.heap.size]? =some (.cells #[vN z1,vU z2] 123 (0,0)) by rw[←hw3];exact heap_alloc_new _ _)
    have HX3:=hid (HX.out.trans e3)
    have hsz:((str z1).size:Int)=(z1.length:Int):=by
     have h:(str z1).size=z1.length:=List.size_toArray ..
     rw[h]
    have hkb:k≤20:=by have:=K3.out;omega
    by_cases hb:100<z1.length
    · have hd:decide ((100:Int)<(z1.length:Int))=true:=by simp;omega
      clear hb hz hz2 hlt hk e3
      go_wp2
      go_returns
      exact⟨⟨true,rfl,fun h=>by cases h⟩,HE.out.trans HX3.out⟩
    · have hd:decide ((100:Int)<(z1.length:Int))=false:=by simp;omega
      have HB:=hid hb
      clear hb hz hz2 hlt hk e3
      go_wp2
      go_roundw
      case rel=>exact⟨k+1,HLT.out,by go_num,HX3,hid (by
       rw[HTK.out]
       intro y hy
       rcases List.mem_append.1 hy with h|h
       · exact HM.out y h
       · rw[List.mem_singleton] at h
         subst h
         have:=HB.out
         show z1.length≤100
         omega)⟩
      case measure=>simp[intOf];have:=HLT.out;omega
  · have hki:decide (k<s.curs.length)=false:=by simp;omega
    have HF:Hid (SmI s):=hid ⟨by have:=K1.out;omega,by have:=K2.out;omega,by have:=K3.out;omega,by
     have:=HM.out
     rw[List.take_of_length_le (by omega)] at this
     exact this⟩
    clear hlt hk
    go_wp2
    go_returns
    exact⟨⟨false,rfl,fun _=>HF.out⟩,HE.out.trans HX.out⟩
end Go.Proofs.YtcfgafododiioaaGreatDoor
set_option maxRecDepth 100000
namespace Go.Proofs.YtcfgafododiioaaGreatDoor
open Go Go.RowKit Go.Tum Go.ChangeMaps Go.Sort
open Go.ParB (upd Lof)
open Go.ParE (putS slotsR slots Closed)
def foldA (l:List Ai) (q:QR):QR:=l.foldl (fun q a=>(actI q a).2) q
theorem foldA_next (l:List Ai) (q:QR) {k:Nat} (hk:k<l.length):foldA (l.take (k+1)) q=(actI (foldA (l.take k) q) l[k]).2:=by
 unfold foldA
 rw[List.take_succ_eq_append_getElem hk,List.foldl_append]
 rfl
theorem foldA_same:∀(l:List Ai) {N:Nat} {q r:QR},WI N q→WI N r→N+300*l.length≤5000000000000000000→SameQ q r→SameQ (foldA l q) (foldA l r)
 |[],_,_,_,_,_,_,h=>h
 |a::l,N,q,r,hq,hr,hN,h=>by
  simp only[List.length_cons] at hN
  exact foldA_same l (hq.act (by omega) a) (hr.act (by omega) a) (by omega) (SameQ.act hq hr (by omega) h a).2
theorem XStp.grow {B:Nat} {w w1 w2:World} {p:Nat} {x:XP} {q:QR} (h:XStp B w p x q w1) (k:Ext w1 w2):XStp B w p x q w2:=by
 obtain⟨x',i,f,n⟩:=h
 exact⟨x',i.ext k,f.trans (Ext.fr k),n⟩
structure CpK (B:Nat) (w:World) (p3:Nat) (z:XP) (rz:QR) (wb bb:Nat) (s:SR) (va vb vc:Value):Prop where
 z:IX B w p3 z rz
 bx:w.heap[wb]? =some (.cells (srC s va vb vc) 57 (0,0))
 rs:RSt bb w s va vb vc
theorem CpK.fr {B:Nat} {w w':World} {p3:Nat} {z:XP} {rz:QR} {wb bb:Nat} {s:SR} {va vb vc:Value} {S:List Nat} (h:CpK B w p3 z rz wb bb s va vb vc) (f:Fr S w w') (hz:∀c∈S,c∉z.blk p3) (hl:∀c∈S,c<bb∧c<wb):CpK B w' p3 z rz wb bb s va vb vc:=
 ⟨h.z.off_fr f hz,(f.block wb (Array.getElem?_eq_some_iff.1 h.bx).1 (fun hm=>by have:=(hl _ hm).2;omega)).trans h.bx,h.rs.fr f (fun c hc=>(hl c hc).1)⟩
theorem CpK.ext {B:Nat} {w w':World} {p3:Nat} {z:XP} {rz:QR} {wb bb:Nat} {s:SR} {va vb vc:Value} (h:CpK B w p3 z rz wb bb s va vb vc) (k:Ext w w'):CpK B w' p3 z rz wb bb s va vb vc:=⟨h.z.ext k,k.obj h.bx,h.rs.ext k⟩
theorem CpK.rsx {B:Nat} {w:World} {p3:Nat} {z:XP} {rz:QR} {wb bb:Nat} {s:SR} {va vb vc:Value} (h:CpK B w p3 z rz wb bb s va vb vc):RsX s (srV s va vb vc) w:=⟨bb,va,vb,vc,rfl,h.rs⟩
set_option maxHeartbeats 2000000 in
theorem indexCopies_law (la pa de:Int) (sv:Value) (s:SR) (v:Value) (m:List Ai) (w:World) (hS:StI w sv s) (hA:ActsI w v m) (ht:TB w):
 Calls Tryz.prog 12 #[ccV la pa de,sv,v] w fun e w'=>e= .returned (.bool true)∧Ext w w':=by
 have HA:=hid hA
 have HT:=hid ht
 obtain⟨hrow,hokk⟩:=hA
 obtain⟨ao,cap,rfl,hle,hm,hnn,hcell⟩:=hrow.open
 have HNN:=hid hnn
 have HC:=hid hcell
 have HST:=hid hS
 obtain⟨⟨io,dO,co,ic,dc,cc,rfl,hs1,hs2,hs3⟩,hsn⟩:=hS
 obtain⟨W1,hW1⟩:∃W,w.alloc (ccO la pa de)=W:=⟨_,rfl⟩
 obtain⟨W2,hW2⟩:∃W,W1.alloc (.cells (srC s (.slice io s.items.length ic) (.slice dO s.dead.length dc) (.slice co s.curs.length cc)) 63 (0,0))=W:=⟨_,rfl⟩
 have e1:Ext w W1:=by rw[←hW1];exact Ext.alloc _ _
 have e2:Ext W1 W2:=by rw[←hW2];exact Ext.alloc _ _
 have HE2:=hid (e1.trans e2)
 have HBC:Hid (W2.heap[w.heap.size]? =some (ccO la pa de)):=hid (e2.obj (by rw[←hW1];exact heap_alloc_new _ _))
 have HBS:Hid (W2.heap[W1.heap.size]? =some (.cells (srC s (.slice io s.items.length ic) (.slice dO s.dead.length dc) (.slice co s.curs.length cc)) 63 (0,0))):=hid (by rw[←hW2];exact heap_alloc_new _ _)
 have HSL:=hid (And.intro hs1 (And.intro hs2 hs3))
 clear hrow hokk hcell hnn ht e1 e2 hs1 hs2 hs3 hsn
 go_enter Tryz.func12,Tryz.ntmps12
 go_wp2_with fail
 clear hW1 hW2
 obtain⟨cb,hcb⟩:∃c,w.heap.size=c:=⟨_,rfl⟩
 have HCB:Hid (w.heap.size=cb):=hid hcb
 rw[hcb] at HBC
 try rw[hcb]
 clear hcb
 obtain⟨sb,hsb⟩:∃c,W1.heap.size=c:=⟨_,rfl⟩
 rw[hsb] at HBS
 try rw[hsb]
 clear hsb
 refine(awake11_any W2 (TBx HT.out HE2.out)).mono ?_
 rintro e w3 ⟨rfl,hx⟩
 have HX3:Hid (Ext W2 w3):=hid hx
 have HE3:=hid (HE2.out.trans hx)
 clear hx
 go_wp2_with fail
 refine(ilarge_any _ m w3 (HA.out.ext HE3.out)).mono ?_
 rintro e w4 ⟨⟨r,rfl,hr⟩,hx⟩
 have HX4:=hid (HX3.out.trans hx)
 have HE4:=hid (HE3.out.trans hx)
 clear hx
 cases r
 case true=>
  clear hr
  go_wp2
  go_returns
  exact⟨rfl,HE4.out⟩
 have HS:=hid (hr rfl)
 clear hr
 obtain⟨d0,d1,d2,d3,d4,d5,d6,d7,-⟩:=blk8 (HX4.out.obj HBS.out)
 go_wp2_with fail
 clear d0 d1 d2 d3 d4 d5 d6 d7
 refine(largeState_any (HST.out.ext HE4.out)).mono ?_
 rintro e w5 ⟨⟨r,rfl,hr⟩,hx⟩
 have HX5:=hid (HX4.out.trans hx)
 have HE5:=hid (HE4.out.trans hx)
 clear hx
 cases r
 case true=>
  clear hr
  go_wp2
  go_returns
  exact⟨rfl,HE5.out⟩
 have HSI:=hid (hr rfl)
 clear hr
 obtain⟨x0,x1,x2,-⟩:=lk3 (HX5.out.obj HBC.out)
 obtain⟨d0,d1,d2,d3,d4,d5,d6,d7,-⟩:=blk8 (HX5.out.obj HBS.out)
 have hf:=ifrom_any 4611686018427387904 la pa de (HSL.out.1.ext HE5.out) (HSL.out.2.1.ext HE5.out) (HSL.out.2.2.ext HE5.out) (TBx HT.out HE5.out) (by have:=HSI.out.dd;omega) (fun z hz=>by have:=HSI.out.nm z hz;omega) (fun hc=>by
  unfold countOk at hc
  simp at hc
  exact⟨hc.1,hc.2.1,hc.2.2.1⟩)
 have HF:Hid (Calls Tryz.prog 28 #[ccV la pa de,.agg #[vU s.now,vU s.next,vU s.leases,vU s.turns,vU s.deaths,.slice io s.items.length ic,.slice dO s.dead.length dc,.slice co s.curs.length cc]] w5 (IfrP 4611686018427387904 w5 la pa de s)):=hid hf
 clear hf
 go_wp2_with fail
 clear x0 x1 x2 d0 d1 d2 d3 d4 d5 d6 d7
 refine HF.out.mono ?_
 rintro e w6 ⟨hf,hx⟩
 have HE6:=hid (HE5.out.trans hx)
 clear hx HF
 obtain⟨rc,hrc⟩:∃b,(rightC la pa de && stateOk la pa de s)=b:=⟨_,rfl⟩
 rw[hrc] at hf
 clear hrc
 cases rc
 case false=>
  rw[if_neg (by simp)] at hf
  subst hf
  go_wp2
  go_returns
  exact⟨rfl,HE6.out⟩
 rw[if_pos rfl] at hf
 obtain⟨p,x,q,rfl,hI,hM⟩:=hf
 obtain⟨B,hB⟩:∃B,w.heap.size=B:=⟨_,rfl⟩
 have hI0:=hI.lower HE5.out.size
 rw[hB] at hI0
 have HBW:Hid (w.heap.size=B):=hid hB
 have HI6:Hid (IX B w6 p x q):=hid hI0
 have HM6:=hid hM
 have HSM:Hid (SmS s):=hid (by rw[←hM.st];exact sms_of hM.xq)
 clear hI hM hI0 hB HX3 HX4 HX5 HE2 HE3 HE4 HBC HBS HSL HST
 go_wp2_with fail
 refine(copy_any HI6.out HM6.out.xq (TBx HT.out HE6.out)).mono ?_
 rintro e w7 ⟨p2,y,r,rfl,hI,hM,hx⟩
 have HE7:=hid (HE6.out.trans hx)
 have HI7:=hid (I2.made HI6.out hI hx HI6.out.bs)
 have HR7:=hid hM
 clear hI hM hx
 go_wp2_with fail
 refine(copy_any HI7.out.a HM6.out.xq (TBx HT.out HE7.out)).mono ?_
 rintro e w8 ⟨p3,z,rz,rfl,hI,hM,hx⟩
 have HE8:=hid (HE7.out.trans hx)
 have HI8:=hid (HI7.out.ext hx)
 have HJ8:=hid (I2.made HI7.out.a hI hx HI7.out.a.bs)
 have HK8:=hid (I2.made HI7.out.b hI hx HI7.out.b.bs)
 have HZ8:=hid hM
 have HRS:Hid (stateQ r=s):=hid (HR7.out.st.trans HM6.out.st)
 have HZS:Hid (stateQ rz=s):=hid (hM.st.trans HM6.out.st)
 clear hI hM hx HI6 HI7 HE6 HE7
 go_wp2_with fail
 refine(st_val HI8.out.b HR7.out.xq (TBx HT.out HE8.out) HRS.out).mono ?_
 rintro e wa ⟨⟨U1,rfl,h1⟩,hx⟩
 have HEa:=hid (HE8.out.trans hx)
 have HU1:=hid h1
 have HXa:Hid (Ext w8 wa):=hid hx
 clear hx h1
 go_wp2_with fail
 refine(lst_val HU1.out HSM.out).mono ?_
 rintro e wb ⟨⟨U2,rfl,h1⟩,hx⟩
 have HEb:=hid (HEa.out.trans hx)
 have HU2:=hid h1
 have HXb:=hid (HXa.out.trans hx)
 clear hx h1 HU1 HXa HEa
 go_wp2_with fail
 refine(st_val (HI8.out.a.ext HXb.out) HM6.out.xq (TBx HT.out HEb.out) HM6.out.st).mono ?_
 rintro e wc ⟨⟨U3,rfl,h1⟩,hx⟩
 have HEc:=hid (HEb.out.trans hx)
 have HU3:=hid h1
 have HU4:=hid (HU2.out.ext hx)
 have HXc:=hid (HXb.out.trans hx)
 clear hx h1 HU2 HXb HEb
 go_wp2_with fail
 refine(lst_val HU3.out HSM.out).mono ?_
 rintro e wd ⟨⟨U5,rfl,h1⟩,hx⟩
 have HEd:=hid (HEc.out.trans hx)
 have HU5:=hid h1
 have HU6:=hid (HU4.out.ext hx)
 have HXd:=hid (HXc.out.trans hx)
 clear hx h1 HU3 HU4 HXc HEc
 go_wp2_with fail
 refine(rsame_val HU6.out HU5.out HSM.out).mono ?_
 rintro e we ⟨rfl,hx⟩
 have HEe:=hid (HEd.out.trans hx)
 have HXe:=hid (HXd.out.trans hx)
 clear hx HU5 HU6 HXd HEd
 go_wp2_with fail
 refine(st_val (HI8.out.a.ext HXe.out) HM6.out.xq (TBx HT.out HEe.out) HM6.out.st).mono ?_
 rintro e wf ⟨⟨U1,rfl,h1⟩,hx⟩
 have HEf:=hid (HEe.out.trans hx)
 have HXf:=hid (HXe.out.trans hx)
 obtain⟨b0,vi,vd,vc,hU,ho⟩:=h1
 subst hU
 have HSV:Hid (Calls Tryz.prog 22 #[srV s vi vd vc] wf fun e w'=>(∃x y z,e= .returned (srV s x y z)∧RSt wf.heap.size w' s x y z)∧Ext wf w'):=hid (lst_any ho HSM.out)
 obtain⟨V,hV⟩:∃V,srV s vi vd vc=V:=⟨_,rfl⟩
 rw[hV] at HSV
 try rw[hV]
 clear ho hx hV HXe HEe
 go_wp2_with fail
 refine HSV.out.mono ?_
 rintro e wg ⟨⟨va,vb,vc,rfl,hr⟩,hx⟩
 obtain⟨ga,gac,rfl⟩:=row_shape hr.ai
 obtain⟨gb,gbc,rfl⟩:=row_shape hr.bi
 obtain⟨gc,gcc,rfl⟩:=row_shape hr.ci
 obtain⟨w9,hw9⟩:∃W,wg.alloc (.cells (srC s (Value.slice ga s.items.length gac) (Value.slice gb s.dead.length gbc) (Value.slice gc s.curs.length gcc)) 57 (0,0))=W:=⟨_,rfl⟩
 have e9:Ext wg w9:=by rw[←hw9];exact Ext.alloc _ _
 have hb9:w9.heap[wg.heap.size]? =some (.cells (srC s (Value.slice ga s.items.length gac) (Value.slice gb s.dead.length gbc) (Value.slice gc s.curs.length gcc)) 57 (0,0)):=by rw[←hw9];exact heap_alloc_new _ _
 have HX9:=hid ((HXf.out.trans hx).trans e9)
 have HE9:=hid ((HEf.out.trans hx).trans e9)
 have HLO:Hid (w8.heap.size≤wf.heap.size∧wf.heap.size≤wg.heap.size∧wg.heap.size<w9.heap.size):=hid ⟨HXf.out.size,hx.size,by rw[←hw9];simp⟩
 have HK9:Hid (CpK B w9 p3 z rz wg.heap.size wf.heap.size s (Value.slice ga s.items.length gac) (Value.slice gb s.dead.length gbc) (Value.slice gc s.curs.length gcc)):=hid ⟨HJ8.out.b.ext HX9.out,hb9,hr.ext e9⟩
 clear hr hx e9 hb9 HXf HEf HSV
 go_wp2
 clear hw9
 obtain⟨wb9,hwb⟩:∃b,wg.heap.size=b:=⟨_,rfl⟩
 rw[hwb] at HLO HK9
 try rw[hwb]
 clear hwb
 obtain⟨bb,hbb⟩:∃b,wf.heap.size=b:=⟨_,rfl⟩
 rw[hbb] at HLO HK9
 clear hbb
 obtain⟨va,hva⟩:∃v,Value.slice ga s.items.length gac=v:=⟨_,rfl⟩
 obtain⟨vb,hvb⟩:∃v,Value.slice gb s.dead.length gbc=v:=⟨_,rfl⟩
 obtain⟨vc,hvc⟩:∃v,Value.slice gc s.curs.length gcc=v:=⟨_,rfl⟩
 rw[hva,hvb,hvc] at HK9
 clear hva hvb hvc
 have HXY:=hid (HI8.out.ext HX9.out)
 have HAP:Hid ((∀c∈x.blk p,c∉y.blk p2)∧(∀c∈x.blk p,c∉z.blk p3)∧(∀c∈y.blk p2,c∉z.blk p3)∧(∀c∈x.blk p,c<bb∧c<wb9)∧(∀c∈y.blk p2,c<bb∧c<wb9)):=hid ⟨HI8.out.ap,HJ8.out.ap,HK8.out.ap,fun c hc=>by have:=(HI8.out.a.blk_lo c hc).2;have:=HLO.out;omega,fun c hc=>by have:=(HI8.out.b.blk_lo c hc).2;have:=HLO.out;omega⟩
 clear HI8 HJ8 HK8 HX9 HE8 HLO
 go_loopw [58] (fun i wr=>∃(k:Nat) (rk:QR),k≤m.length∧i= .int .i64 (k:Int)∧Hid (XStp B w9 p2 y rk wr)∧Hid (rk=foldA (m.take k) r∧XQ (4611686018427387904+300*k) rk)∧Hid (Ext w wr)) (fun i _=>m.length - (intOf i).toNat)
 case atStart=>exact⟨0,r,Nat.zero_le _,rfl,hid (XStp.same HXY.out.b (Ext.refl _)),hid ⟨rfl,HR7.out.xq.mono (by omega)⟩,HE9⟩
 case round=>
  obtain⟨k,rk,hk,rfl,HI,HQ,HE⟩:=hrel
  by_cases hlt:k<m.length
  · obtain⟨a0,rfl⟩:=HNN.out (by omega)
    have c0:=cell_first (HE.out.cell (HC.out a0 rfl k hlt 0 _ rfl))
    have c1:=cell_next (HE.out.cell (HC.out a0 rfl k hlt 1 _ rfl)) (by decide)
    have c2:=cell_next (HE.out.cell (HC.out a0 rfl k hlt 2 _ rfl)) (by decide)
    have c3:=cell_next (HE.out.cell (HC.out a0 rfl k hlt 3 _ rfl)) (by decide)
    have c4:=cell_next (HE.out.cell (HC.out a0 rfl k hlt 4 _ rfl)) (by decide)
    have c5:=cell_next (HE.out.cell (HC.out a0 rfl k hlt 5 _ rfl)) (by decide)
    have c6:=cell_next (HE.out.cell (HC.out a0 rfl k hlt 6 _ rfl)) (by decide)
    have c7:=cell_next (HE.out.cell (HC.out a0 rfl k hlt 7 _ rfl)) (by decide)
    have c8:=cell_next (HE.out.cell (HC.out a0 rfl k hlt 8 _ rfl)) (by decide)
    have HOK:=hid (HA.out.2 m[k] (List.getElem_mem hlt))
    have HSN:=hid (HS.out.2 m[k] (List.getElem_mem hlt))
    have HLM:=hid HS.out.1
    obtain⟨aq,haq⟩:∃z,m[k]=z:=⟨_,rfl⟩
    rw[haq] at c0 c1 c2 c3 c4 c5 c6 c7 c8 HOK HSN
    obtain⟨dn,lane,many,aid,an,name,asg,aps,asz⟩:=aq
    dsimp only at c0 c1 c2 c3 c4 c5 c6 c7 c8
    have hi1:decide ((k:Int)<m.length)=true:=by simp;omega
    have HKM:=hid hlt
    obtain⟨w5,hw5⟩:∃W,wr.alloc (.cells #[.int .i64 dn,.int .i64 lane,.int .i64 many,vU aid,vU an,vN name,vU asg,vU aps,.int .i64 asz] 40 (0,0))=W:=⟨_,rfl⟩
    have e5:Ext wr w5:=by rw[←hw5];exact Ext.alloc _ _
    have HB5:Hid (w5.heap[wr.heap.size]? =some (.cells #[.int .i64 dn,.int .i64 lane,.int .i64 many,vU aid,vU an,vN name,vU asg,vU aps,.int .i64 asz] 40 (0,0))):=hid (by rw[←hw5];exact heap_alloc_new _ _)
    have HI5:=hid (HI.out.grow e5)
    have HE5:=hid (HE.out.trans e5)
    have HFN:Hid ((actI (foldA (m.take k) r) ⟨dn,lane,many,aid,an,name,asg,aps,asz⟩).2=foldA (m.take (k+1)) r):=hid (by rw[foldA_next m r hlt,haq])
    clear haq
    clear e5 hlt hk HI HE
    obtain⟨d0,d1,d2,d3,d4,d5,d6,d7,d8,-⟩:=blk9 HB5.out
    obtain⟨y5,i5,f5,n5⟩:=HI5.out
    have hcall:=do_any11 ⟨dn,lane,many,aid,an,name,asg,aps,asz⟩ i5 i5.bs HQ.out.2.wi (by have:=HKM.out;have:=HLM.out;omega) (TBx HT.out HE5.out) (Nat.le_trans HSN.out (by decide)) HOK.out.mn
    have hq9:=HQ.out.2.act (by have:=HKM.out;have:=HLM.out;omega) ⟨dn,lane,many,aid,an,name,asg,aps,asz⟩
    rw[HQ.out.1,HFN.out] at hq9
    rw[show(actI rk ⟨dn,lane,many,aid,an,name,asg,aps,asz⟩)=((actI rk ⟨dn,lane,many,aid,an,name,asg,aps,asz⟩).1,foldA (m.take (k+1)) r) by rw[HQ.out.1,←HFN.out]] at hcall
    have HCALL:Hid (Calls Tryz.prog 19 #[pv p2,aiV ⟨dn,lane,many,aid,an,name,asg,aps,asz⟩] w5 fun e w'=>(∃u,e= .returned u)∧XStp B w9 p2 y (foldA (m.take (k+1)) r) w'∧Ext w w'):=hid (hcall.mono fun e w' ⟨⟨o,c,he,_⟩,hst⟩=>⟨⟨_,he⟩,XStp.then f5 n5 hst,by
     have hb:Below B w5 w':=by
      obtain⟨_,_,f',_⟩:=hst
      exact f'.below i5.blo i5.bs
     exact Below.trans HE5.out (by rw[←HBW.out] at hb;exact hb)⟩)
    have HQ9:Hid (XQ (4611686018427387904+300*k+300) (foldA (m.take (k+1)) r)):=hid hq9
    clear hcall hq9 i5 f5 n5 HI5 HQ HFN
    go_wp2_with fail
    clear hw5 c0 c1 c2 c3 c4 c5 c6 c7 c8 hi1 d0 d1 d2 d3 d4 d5 d6 d7 d8
    refine HCALL.out.mono ?_
    rintro e wr1 ⟨⟨u,rfl⟩,hst,hE⟩
    have HI:=hid hst
    have HE:=hid hE
    obtain⟨y6,i6,f6,n6⟩:=hst
    have HXN:=hid (HXY.out.a.off_fr f6 (fun c hc hm=>HAP.out.1 c hm hc))
    have HKN:=hid (HK9.out.fr f6 HAP.out.2.2.1 HAP.out.2.2.2.2)
    clear hE i6 f6 n6 HCALL HE5 HB5
    go_wp2_with fail
    refine Par.wp_region_par (l:=[_,_,_,_,_,_]) rfl Ext (Par.VL [Par.EQ (pv p),(fun v w'=>SrX s v w'),(fun v w'=>RsX s v w'),Par.EQ (srV s va vb vc),Par.EQ (Value.bool true),Par.EQ (Value.bool false)]) (by kernel_rfl) Ext.refl (fun _ _ _ h1 h2=>Ext.trans h1 h2) (Ext.draw _) (Par.VL_stab ?_) ?_ ?_
    · simp only[List.forall_mem_cons,List.not_mem_nil,false_implies,implies_true,and_true]
      refine⟨fun _ _ _ _ h=>h,fun _ _ _ hx h=>h.ext hx,fun _ _ _ hx h=>h.ext hx,fun _ _ _ _ h=>h,fun _ _ _ _ h=>h,fun _ _ _ _ h=>h⟩
    · refine⟨⟨fun _ _=>trivial,fun ρ w' hX hG hk=> ?_⟩,?_⟩
      · obtain⟨(e0:ρ (.tmp 7)=pv p),-⟩:=hk;refine Par.val_k fun K hK=> ?_;unfold Par.val
        (go_simp;exact hK _ _ ⟨Ext.refl _,rfl⟩)
      refine⟨⟨fun _ _=>trivial,fun ρ w' hX hG hk=> ?_⟩,?_⟩
      · obtain⟨e0,(e1:ρ (.tmp 65)=pv p),-⟩:=hk;refine Par.val_k fun K hK=> ?_;unfold Par.val
        (refine Par.val_call Tryz.func23 (by kernel_rfl) rfl e0 ?_;simp only[List.map_toArray,List.map_cons,List.map_nil,e1];refine(st_val (HXN.out.ext hX) HM6.out.xq (TBx HT.out (HE.out.trans hX)) HM6.out.st).mono ?_;rintro e w2 ⟨⟨V,rfl,ho⟩,hx⟩;exact⟨_,rfl,hK _ _ ⟨hx,ho⟩⟩)
      refine⟨⟨fun _ _=>trivial,fun ρ w' hX hG hk=> ?_⟩,?_⟩
      · obtain⟨e0,(e1:(fun v w'=>SrX s v w') (ρ (.tmp 66)) w'),-⟩:=hk;refine Par.val_k fun K hK=> ?_;unfold Par.val
        (refine Par.val_call Tryz.func22 (by kernel_rfl) rfl e0 ?_;simp only[List.map_toArray,List.map_cons,List.map_nil];refine(lst_val e1 HSM.out).mono ?_;rintro e w2 ⟨⟨V,rfl,hr⟩,hx⟩;exact⟨_,rfl,hK _ _ ⟨hx,hr⟩⟩)
      refine⟨⟨fun _ _=>trivial,fun ρ w' hX hG hk=> ?_⟩,?_⟩
      · obtain⟨(e0:ρ (.tmp 11)=Value.pointer (some ⟨wb9,0,none⟩)),-⟩:=hk;refine Par.val_k fun K hK=> ?_;unfold Par.val
        (obtain⟨cc0,cc1,cc2,cc3,cc4,cc5,cc6,cc7,-⟩:=blk8 (hX.obj HKN.out.bx);go_simp;exact hK _ _ ⟨Ext.refl _,rfl⟩)
      refine⟨⟨fun _ _=>trivial,fun ρ w' hX hG hk=> ?_⟩,?_⟩
      · obtain⟨e0,(e1:(fun v w'=>RsX s v w') (ρ (.tmp 67)) w'),(e2:ρ (.tmp 68)=srV s va vb vc),-⟩:=hk;refine Par.val_k fun K hK=> ?_;unfold Par.val
        (refine Par.val_call Tryz.func21 (by kernel_rfl) rfl e0 ?_;simp only[List.map_toArray,List.map_cons,List.map_nil,e2];refine(rsame_val e1 (HKN.out.rsx.ext hX) HSM.out).mono ?_;rintro e w2 ⟨rfl,hx⟩;exact⟨_,rfl,hK _ _ ⟨hx,rfl⟩⟩)
      refine⟨⟨fun _ _=>trivial,fun _ _ _ _ hk=>Par.pv [(69,Value.bool true)] hk (by kernel_rfl) ⟨Ext.refl _,rfl⟩⟩,?_⟩
      trivial
    intro a' w' inv
    have hX:=inv.ext
    have q66:(fun v w'=>SrX s v w') (a'.tmps.getD 66 undef) w':=inv.done 1 _ 66 rfl rfl rfl
    have q67:(fun v w'=>RsX s v w') (a'.tmps.getD 67 undef) w':=inv.done 2 _ 67 rfl rfl rfl
    have hq:=Par.donesI inv;simp only[Par.dones,Par.EQ,true_and,and_true] at hq
    clear inv
    simp only[List.filterMap_cons,List.filterMap_nil,Par.putAll,Act.put,List.setIfInBounds_toArray,List.set_cons_succ,List.set_cons_zero,hq]
    clear hq
    generalize a'.tmps.getD 66 undef=u66 at*
    generalize a'.tmps.getD 67 undef=u67 at*
    clear a'
    have HI2:=hid (HI.out.grow hX)
    have HE2:=hid (HE.out.trans hX)
    go_wp2
    go_roundw
    case rel=>exact⟨k+1,_,HKM.out,by go_num,HI2,hid ⟨rfl,HQ9.out.mono (by omega)⟩,HE2⟩
    case measure=>simp[intOf];have:=HKM.out;omega
  · obtain rfl:k=m.length:=by omega
    have hki:decide (m.length<m.length)=false:=by simp
    have HY0:Hid (XStp B w9 p2 y (foldA m r) wr):=hid (by have:=HQ.out.1;rw[List.take_length] at this;rw[←this];exact HI.out)
    have HQY:Hid (XQ (4611686018427387904+300*m.length) (foldA m r)):=hid (by have:=HQ.out;rw[List.take_length] at this;rw[←this.1];exact this.2)
    obtain⟨y6,i6,f6,n6⟩:=HY0.out
    have HY1:=hid i6
    have HX1:=hid (HXY.out.a.off_fr f6 (fun c hc hm=>HAP.out.1 c hm hc))
    have HK1:=hid (HK9.out.fr f6 HAP.out.2.2.1 HAP.out.2.2.2.2)
    have HAY:Hid (∀c∈x.blk p,c∉y6.blk p2):=hid (fun c hc hm=>by
     rcases n6 c hm with k|k
     · exact HAP.out.1 c hc k
     · have:=(HXY.out.a.blk_lo c hc).2;omega)
    have HE0:=HE
    clear hk hlt HI HQ HE i6 f6 n6 HY0 HK9 HXY HE9
    obtain⟨wz,rfl⟩:∃W,W=wr:=⟨_,rfl⟩
    go_wp2
    clear hki
    go_loopw [74] (fun i w0=>∃(k:Nat) (qk:QR),k≤m.length∧i= .int .i64 (k:Int)∧Hid (XStp B wz p x qk w0)∧Hid (qk=foldA (m.take k) q∧XQ (4611686018427387904+300*k) qk)∧Hid (Ext w w0)) (fun i _=>m.length - (intOf i).toNat)
    case atStart=>exact⟨0,q,Nat.zero_le _,rfl,hid (XStp.same HX1.out (Ext.refl _)),hid ⟨rfl,HM6.out.xq.mono (by omega)⟩,HE0⟩
    case round=>
     obtain⟨k,qk,hk,rfl,HI,HQ,HE⟩:=hrel
     by_cases hlt:k<m.length
     · obtain⟨a0,rfl⟩:=HNN.out (by omega)
       have c0:=cell_first (HE.out.cell (HC.out a0 rfl k hlt 0 _ rfl))
       have c1:=cell_next (HE.out.cell (HC.out a0 rfl k hlt 1 _ rfl)) (by decide)
       have c2:=cell_next (HE.out.cell (HC.out a0 rfl k hlt 2 _ rfl)) (by decide)
       have c3:=cell_next (HE.out.cell (HC.out a0 rfl k hlt 3 _ rfl)) (by decide)
       have c4:=cell_next (HE.out.cell (HC.out a0 rfl k hlt 4 _ rfl)) (by decide)
       have c5:=cell_next (HE.out.cell (HC.out a0 rfl k hlt 5 _ rfl)) (by decide)
       have c6:=cell_next (HE.out.cell (HC.out a0 rfl k hlt 6 _ rfl)) (by decide)
       have c7:=cell_next (HE.out.cell (HC.out a0 rfl k hlt 7 _ rfl)) (by decide)
       have c8:=cell_next (HE.out.cell (HC.out a0 rfl k hlt 8 _ rfl)) (by decide)
       have HOK:=hid (HA.out.2 m[k] (List.getElem_mem hlt))
       have HSN:=hid (HS.out.2 m[k] (List.getElem_mem hlt))
       have HLM:=hid HS.out.1
       obtain⟨aq,haq⟩:∃z,m[k]=z:=⟨_,rfl⟩
       rw[haq] at c0 c1 c2 c3 c4 c5 c6 c7 c8 HOK HSN
       obtain⟨dn,lane,many,aid,an,name,asg,aps,asz⟩:=aq
       dsimp only at c0 c1 c2 c3 c4 c5 c6 c7 c8
       have hi1:decide ((k:Int)<m.length)=true:=by simp;omega
       have HKM:=hid hlt
       obtain⟨w5,hw5⟩:∃W,wr.alloc (.cells #[.int .i64 dn,.int .i64 lane,.int .i64 many,vU aid,vU an,vN name,vU asg,vU aps,.int .i64 asz] 40 (0,0))=W:=⟨_,rfl⟩
       have e5:Ext wr w5:=by rw[←hw5];exact Ext.alloc _ _
       have HB5:Hid (w5.heap[wr.heap.size]? =some (.cells #[.int .i64 dn,.int .i64 lane,.int .i64 many,vU aid,vU an,vN name,vU asg,vU aps,.int .i64 asz] 40 (0,0))):=hid (by rw[←hw5];exact heap_alloc_new _ _)
       have HI5:=hid (HI.out.grow e5)
       have HE5:=hid (HE.out.trans e5)
       have HFN:Hid ((actI (foldA (m.take k) q) ⟨dn,lane,many,aid,an,name,asg,aps,asz⟩).2=foldA (m.take (k+1)) q):=hid (by rw[foldA_next m q hlt,haq])
       clear haq
       clear e5 hlt hk HI HE
       obtain⟨d0,d1,d2,d3,d4,d5,d6,d7,d8,-⟩:=blk9 HB5.out
       obtain⟨x5,i5,f5,n5⟩:=HI5.out
       have hcall:=do_any11 ⟨dn,lane,many,aid,an,name,asg,aps,asz⟩ i5 i5.bs HQ.out.2.wi (by have:=HKM.out;have:=HLM.out;omega) (TBx HT.out HE5.out) (Nat.le_trans HSN.out (by decide)) HOK.out.mn
       have hq9:=HQ.out.2.act (by have:=HKM.out;have:=HLM.out;omega) ⟨dn,lane,many,aid,an,name,asg,aps,asz⟩
       rw[HQ.out.1,HFN.out] at hq9
       rw[show(actI qk ⟨dn,lane,many,aid,an,name,asg,aps,asz⟩)=((actI qk ⟨dn,lane,many,aid,an,name,asg,aps,asz⟩).1,foldA (m.take (k+1)) q) by rw[HQ.out.1,←HFN.out]] at hcall
       have HCALL:Hid (Calls Tryz.prog 19 #[pv p,aiV ⟨dn,lane,many,aid,an,name,asg,aps,asz⟩] w5 fun e w'=>(∃u,e= .returned u)∧XStp B wz p x (foldA (m.take (k+1)) q) w'∧Ext w w'):=hid (hcall.mono fun e w' ⟨⟨o,c,he,_⟩,hst⟩=>⟨⟨_,he⟩,XStp.then f5 n5 hst,by
        have hb:Below B w5 w':=by
         obtain⟨_,_,f',_⟩:=hst
         exact f'.below i5.blo i5.bs
        exact Below.trans HE5.out (by rw[←HBW.out] at hb;exact hb)⟩)
       have HQ9:Hid (XQ (4611686018427387904+300*k+300) (foldA (m.take (k+1)) q)):=hid hq9
       clear hcall hq9 i5 f5 n5 HI5 HQ HFN
       go_wp2_with fail
       clear hw5 c0 c1 c2 c3 c4 c5 c6 c7 c8 hi1 d0 d1 d2 d3 d4 d5 d6 d7 d8
       refine HCALL.out.mono ?_
       rintro e wr1 ⟨⟨u,rfl⟩,hst,hE⟩
       have HI:=hid hst
       have HE:=hid hE
       clear hst hE HCALL HE5 HB5
       go_wp2
       go_roundw
       case rel=>exact⟨k+1,_,HKM.out,by go_num,HI,hid ⟨rfl,HQ9.out.mono (by omega)⟩,HE⟩
       case measure=>simp[intOf];have:=HKM.out;omega
     · obtain rfl:k=m.length:=by omega
       have hki:decide (m.length<m.length)=false:=by simp
       have hxs:XStp B wz p x (foldA m q) wr:=by have:=HQ.out.1;rw[List.take_length] at this;rw[←this];exact HI.out
       have HQX:Hid (XQ (4611686018427387904+300*m.length) (foldA m q)):=hid (by have:=HQ.out;rw[List.take_length] at this;rw[←this.1];exact this.2)
       obtain⟨x7,i7,f7,n7⟩:=hxs
       have HX2:=hid i7
       have HY2:=hid (HY1.out.off_fr f7 HAY.out)
       have HK2:=hid (HK1.out.fr f7 HAP.out.2.1 HAP.out.2.2.2.1)
       have HSS:Hid (SameQ (foldA m q) (foldA m r)):=hid (foldA_same m HM6.out.xq.wi HR7.out.xq.wi (by have:=HS.out.1;omega) (same_of HM6.out.xq.wi.wq HR7.out.xq.wi.wq HM6.out.xq.wi.wd HR7.out.xq.wi.wd HR7.out.st.symm HR7.out.la.symm HR7.out.pa.symm HR7.out.de.symm))
       obtain⟨s2,hs2⟩:∃s2,stateQ (foldA m q)=s2:=⟨_,rfl⟩
       have HS2:=hid hs2
       have HS3:Hid (stateQ (foldA m r)=s2):=hid ((HSS.out.state HQX.out.wi.wq HQY.out.wi.wq).symm.trans hs2)
       have HSM2:Hid (SmS s2):=hid (by rw[←hs2];exact sms_of HQX.out)
       clear hk hlt HI HQ i7 f7 n7 hs2 HX1 HY1 HK1 HAY HAP HE0
       go_wp2_with fail
       clear hki
       refine(copy_any HY2.out HQY.out (TBx HT.out HE.out)).mono ?_
       rintro e w10 ⟨p4,y4,r4,rfl,hI4,hM4,hx⟩
       have HC4:=hid hI4
       have HM4:=hid hM4.xq
       have HS4:Hid (stateQ r4=s2):=hid (hM4.st.trans HS3.out)
       have HX4:=hid (HX2.out.ext hx)
       have HY4:=hid (HY2.out.ext hx)
       have HK4:=hid (HK2.out.ext hx)
       have HE:=hid (HE.out.trans hx)
       clear hI4 hM4 hx HX2 HY2 HK2
       go_wp2_with fail
       refine Par.wp_region_par (l:=[_,_,_,_,_,_,_,_,_,_,_,_,_,_,_,_,_,_,_,_,_,_,_,_,_,_,_,_]) rfl Ext (Par.VL [Par.EQ (pv p4),Par.EQ (Value.bool true),Par.EQ (Value.bool true),Par.EQ (pv p),(fun v w'=>SrX s2 v w'),(fun v w'=>RsX s2 v w'),Par.EQ (pv p2),(fun v w'=>SrX s2 v w'),(fun v w'=>RsX s2 v w'),Par.EQ (Value.bool true),Par.EQ (Value.bool true),Par.EQ (Value.bool true),Par.EQ (pv p4),(fun v w'=>SrX s2 v w'),(fun v w'=>RsX s2 v w'),Par.EQ (pv p2),(fun v w'=>SrX s2 v w'),(fun v w'=>RsX s2 v w'),Par.EQ (Value.bool true),Par.EQ (Value.bool true),Par.EQ (Value.bool true),Par.EQ (pv p3),(fun v w'=>SrX s v w'),(fun v w'=>RsX s v w'),Par.EQ (srV s va vb vc),Par.EQ (Value.bool true),Par.EQ (Value.bool true),Par.EQ (Value.bool true)]) (by kernel_rfl) Ext.refl (fun _ _ _ h1 h2=>Ext.trans h1 h2) (Ext.draw _) (Par.VL_stab ?_) ?_ ?_
       · simp only[List.forall_mem_cons,List.not_mem_nil,false_implies,implies_true,and_true]
         refine⟨fun _ _ _ _ h=>h,fun _ _ _ _ h=>h,fun _ _ _ _ h=>h,fun _ _ _ _ h=>h,fun _ _ _ hx h=>h.ext hx,fun _ _ _ hx h=>h.ext hx,fun _ _ _ _ h=>h,fun _ _ _ hx h=>h.ext hx,fun _ _ _ hx h=>h.ext hx,fun _ _ _ _ h=>h,fun _ _ _ _ h=>h,fun _ _ _ _ h=>h,fun _ _ _ _ h=>h,fun _ _ _ hx h=>h.ext hx,fun _ _ _ hx h=>h.ext hx,fun _ _ _ _ h=>h,fun _ _ _ hx h=>h.ext hx,fun _ _ _ hx h=>h.ext hx,fun _ _ _ _ h=>h,fun _ _ _ _ h=>h,fun _ _ _ _ h=>h,fun _ _ _ _ h=>h,fun _ _ _ hx h=>h.ext hx,fun _ _ _ hx h=>h.ext hx,fun _ _ _ _ h=>h,fun _ _ _ _ h=>h,fun _ _ _ _ h=>h,fun _ _ _ _ h=>h⟩
       · refine⟨⟨fun _ _=>trivial,fun ρ w' hX hG hk=> ?_⟩,?_⟩
         · obtain⟨(e0:ρ (.tmp 16)=pv p4),-⟩:=hk;refine Par.val_k fun K hK=> ?_;unfold Par.val
           (go_simp;exact hK _ _ ⟨Ext.refl _,rfl⟩)
         refine⟨⟨fun _ _=>trivial,fun ρ w' hX hG hk=> ?_⟩,?_⟩
         · obtain⟨(e0:ρ (.tmp 84)=pv p4),(e1:ρ (Operand.const (Value.pointer none))=(Value.pointer none)),-⟩:=hk;refine Par.val_k fun K hK=> ?_;unfold Par.val
           (go_simp;exact hK _ _ ⟨Ext.refl _,rfl⟩)
         refine⟨⟨fun _ _=>trivial,fun ρ w' hX hG hk=> ?_⟩,?_⟩
         · obtain⟨(e0:ρ (.tmp 85)=Value.bool true),-⟩:=hk;refine Par.val_k fun K hK=> ?_;unfold Par.val
           (go_simp;exact hK _ _ ⟨Ext.refl _,rfl⟩)
         refine⟨⟨fun _ _ u hu=> .inl hu,fun ρ w' hX hG hk=> ?_⟩,?_⟩
         · obtain⟨(e0:ρ (.tmp 7)=pv p),-⟩:=hk;refine Par.val_k fun K hK=> ?_;unfold Par.val
           (go_simp;exact hK _ _ ⟨Ext.refl _,rfl⟩)
         refine⟨⟨fun _ _ u hu=> .inl hu,fun ρ w' hX hG hk=> ?_⟩,?_⟩
         · obtain⟨e0,(e1:ρ (.tmp 87)=pv p),-⟩:=hk;refine Par.val_k fun K hK=> ?_;unfold Par.val
           (refine Par.val_call Tryz.func23 (by kernel_rfl) rfl e0 ?_;simp only[List.map_toArray,List.map_cons,List.map_nil,e1];refine(st_val (HX4.out.ext hX) HQX.out (TBx HT.out (HE.out.trans hX)) HS2.out).mono ?_;rintro e w2 ⟨⟨V,rfl,ho⟩,hx⟩;exact⟨_,rfl,hK _ _ ⟨hx,ho⟩⟩)
         refine⟨⟨fun _ _ u hu=> .inl hu,fun ρ w' hX hG hk=> ?_⟩,?_⟩
         · obtain⟨e0,(e1:(fun v w'=>SrX s2 v w') (ρ (.tmp 88)) w'),-⟩:=hk;refine Par.val_k fun K hK=> ?_;unfold Par.val
           (refine Par.val_call Tryz.func22 (by kernel_rfl) rfl e0 ?_;simp only[List.map_toArray,List.map_cons,List.map_nil];refine(lst_val e1 HSM2.out).mono ?_;rintro e w2 ⟨⟨V,rfl,hr⟩,hx⟩;exact⟨_,rfl,hK _ _ ⟨hx,hr⟩⟩)
         refine⟨⟨fun _ _ u hu=> .inl hu,fun ρ w' hX hG hk=> ?_⟩,?_⟩
         · obtain⟨(e0:ρ (.tmp 9)=pv p2),-⟩:=hk;refine Par.val_k fun K hK=> ?_;unfold Par.val
           (go_simp;exact hK _ _ ⟨Ext.refl _,rfl⟩)
         refine⟨⟨fun _ _ u hu=> .inl hu,fun ρ w' hX hG hk=> ?_⟩,?_⟩
         · obtain⟨e0,(e1:ρ (.tmp 90)=pv p2),-⟩:=hk;refine Par.val_k fun K hK=> ?_;unfold Par.val
           (refine Par.val_call Tryz.func23 (by kernel_rfl) rfl e0 ?_;simp only[List.map_toArray,List.map_cons,List.map_nil,e1];refine(st_val (HY4.out.ext hX) HQY.out (TBx HT.out (HE.out.trans hX)) HS3.out).mono ?_;rintro e w2 ⟨⟨V,rfl,ho⟩,hx⟩;exact⟨_,rfl,hK _ _ ⟨hx,ho⟩⟩)
         refine⟨⟨fun _ _ u hu=> .inl hu,fun ρ w' hX hG hk=> ?_⟩,?_⟩
         · obtain⟨e0,(e1:(fun v w'=>SrX s2 v w') (ρ (.tmp 91)) w'),-⟩:=hk;refine Par.val_k fun K hK=> ?_;unfold Par.val
           (refine Par.val_call Tryz.func22 (by kernel_rfl) rfl e0 ?_;simp only[List.map_toArray,List.map_cons,List.map_nil];refine(lst_val e1 HSM2.out).mono ?_;rintro e w2 ⟨⟨V,rfl,hr⟩,hx⟩;exact⟨_,rfl,hK _ _ ⟨hx,hr⟩⟩)
         refine⟨⟨fun _ _ u hu=> .inl hu,fun ρ w' hX hG hk=> ?_⟩,?_⟩
         · obtain⟨e0,(e1:(fun v w'=>RsX s2 v w') (ρ (.tmp 89)) w'),(e2:(fun v w'=>RsX s2 v w') (ρ (.tmp 92)) w'),-⟩:=hk;refine Par.val_k fun K hK=> ?_;unfold Par.val
           (refine Par.val_call Tryz.func21 (by kernel_rfl) rfl e0 ?_;simp only[List.map_toArray,List.map_cons,List.map_nil];refine(rsame_val e1 e2 HSM2.out).mono ?_;rintro e w2 ⟨rfl,hx⟩;exact⟨_,rfl,hK _ _ ⟨hx,rfl⟩⟩)
         refine⟨⟨fun _ _=>trivial,fun _ _ _ _ hk=>Par.pv [(86,Value.bool true),(93,Value.bool true)] hk (by kernel_rfl) ⟨Ext.refl _,rfl⟩⟩,?_⟩
         refine⟨⟨fun _ _=>trivial,fun ρ w' hX hG hk=> ?_⟩,?_⟩
         · obtain⟨(e0:ρ (.tmp 94)=Value.bool true),-⟩:=hk;refine Par.val_k fun K hK=> ?_;unfold Par.val
           (go_simp;exact hK _ _ ⟨Ext.refl _,rfl⟩)
         refine⟨⟨fun _ _ u hu=> .inl hu,fun ρ w' hX hG hk=> ?_⟩,?_⟩
         · obtain⟨(e0:ρ (.tmp 16)=pv p4),-⟩:=hk;refine Par.val_k fun K hK=> ?_;unfold Par.val
           (go_simp;exact hK _ _ ⟨Ext.refl _,rfl⟩)
         refine⟨⟨fun _ _ u hu=> .inl hu,fun ρ w' hX hG hk=> ?_⟩,?_⟩
         · obtain⟨e0,(e1:ρ (.tmp 96)=pv p4),-⟩:=hk;refine Par.val_k fun K hK=> ?_;unfold Par.val
           (refine Par.val_call Tryz.func23 (by kernel_rfl) rfl e0 ?_;simp only[List.map_toArray,List.map_cons,List.map_nil,e1];refine(st_val (HC4.out.ext hX) HM4.out (TBx HT.out (HE.out.trans hX)) HS4.out).mono ?_;rintro e w2 ⟨⟨V,rfl,ho⟩,hx⟩;exact⟨_,rfl,hK _ _ ⟨hx,ho⟩⟩)
         refine⟨⟨fun _ _ u hu=> .inl hu,fun ρ w' hX hG hk=> ?_⟩,?_⟩
         · obtain⟨e0,(e1:(fun v w'=>SrX s2 v w') (ρ (.tmp 97)) w'),-⟩:=hk;refine Par.val_k fun K hK=> ?_;unfold Par.val
           (refine Par.val_call Tryz.func22 (by kernel_rfl) rfl e0 ?_;simp only[List.map_toArray,List.map_cons,List.map_nil];refine(lst_val e1 HSM2.out).mono ?_;rintro e w2 ⟨⟨V,rfl,hr⟩,hx⟩;exact⟨_,rfl,hK _ _ ⟨hx,hr⟩⟩)
         refine⟨⟨fun _ _ u hu=> .inl hu,fun ρ w' hX hG hk=> ?_⟩,?_⟩
         · obtain⟨(e0:ρ (.tmp 9)=pv p2),-⟩:=hk;refine Par.val_k fun K hK=> ?_;unfold Par.val
           (go_simp;exact hK _ _ ⟨Ext.refl _,rfl⟩)
         refine⟨⟨fun _ _ u hu=> .inl hu,fun ρ w' hX hG hk=> ?_⟩,?_⟩
         · obtain⟨e0,(e1:ρ (.tmp 99)=pv p2),-⟩:=hk;refine Par.val_k fun K hK=> ?_;unfold Par.val
           (refine Par.val_call Tryz.func23 (by kernel_rfl) rfl e0 ?_;simp only[List.map_toArray,List.map_cons,List.map_nil,e1];refine(st_val (HY4.out.ext hX) HQY.out (TBx HT.out (HE.out.trans hX)) HS3.out).mono ?_;rintro e w2 ⟨⟨V,rfl,ho⟩,hx⟩;exact⟨_,rfl,hK _ _ ⟨hx,ho⟩⟩)
         refine⟨⟨fun _ _ u hu=> .inl hu,fun ρ w' hX hG hk=> ?_⟩,?_⟩
         · obtain⟨e0,(e1:(fun v w'=>SrX s2 v w') (ρ (.tmp 100)) w'),-⟩:=hk;refine Par.val_k fun K hK=> ?_;unfold Par.val
           (refine Par.val_call Tryz.func22 (by kernel_rfl) rfl e0 ?_;simp only[List.map_toArray,List.map_cons,List.map_nil];refine(lst_val e1 HSM2.out).mono ?_;rintro e w2 ⟨⟨V,rfl,hr⟩,hx⟩;exact⟨_,rfl,hK _ _ ⟨hx,hr⟩⟩)
         refine⟨⟨fun _ _ u hu=> .inl hu,fun ρ w' hX hG hk=> ?_⟩,?_⟩
         · obtain⟨e0,(e1:(fun v w'=>RsX s2 v w') (ρ (.tmp 98)) w'),(e2:(fun v w'=>RsX s2 v w') (ρ (.tmp 101)) w'),-⟩:=hk;refine Par.val_k fun K hK=> ?_;unfold Par.val
           (refine Par.val_call Tryz.func21 (by kernel_rfl) rfl e0 ?_;simp only[List.map_toArray,List.map_cons,List.map_nil];refine(rsame_val e1 e2 HSM2.out).mono ?_;rintro e w2 ⟨rfl,hx⟩;exact⟨_,rfl,hK _ _ ⟨hx,rfl⟩⟩)
         refine⟨⟨fun _ _=>trivial,fun _ _ _ _ hk=>Par.pv [(95,Value.bool true),(102,Value.bool true)] hk (by kernel_rfl) ⟨Ext.refl _,rfl⟩⟩,?_⟩
         refine⟨⟨fun _ _=>trivial,fun ρ w' hX hG hk=> ?_⟩,?_⟩
         · obtain⟨(e0:ρ (.tmp 103)=Value.bool true),-⟩:=hk;refine Par.val_k fun K hK=> ?_;unfold Par.val
           (go_simp;exact hK _ _ ⟨Ext.refl _,rfl⟩)
         refine⟨⟨fun _ _ u hu=> .inl hu,fun ρ w' hX hG hk=> ?_⟩,?_⟩
         · obtain⟨(e0:ρ (.tmp 10)=pv p3),-⟩:=hk;refine Par.val_k fun K hK=> ?_;unfold Par.val
           (go_simp;exact hK _ _ ⟨Ext.refl _,rfl⟩)
         refine⟨⟨fun _ _ u hu=> .inl hu,fun ρ w' hX hG hk=> ?_⟩,?_⟩
         · obtain⟨e0,(e1:ρ (.tmp 105)=pv p3),-⟩:=hk;refine Par.val_k fun K hK=> ?_;unfold Par.val
           (refine Par.val_call Tryz.func23 (by kernel_rfl) rfl e0 ?_;simp only[List.map_toArray,List.map_cons,List.map_nil,e1];refine(st_val (HK4.out.z.ext hX) HZ8.out.xq (TBx HT.out (HE.out.trans hX)) HZS.out).mono ?_;rintro e w2 ⟨⟨V,rfl,ho⟩,hx⟩;exact⟨_,rfl,hK _ _ ⟨hx,ho⟩⟩)
         refine⟨⟨fun _ _ u hu=> .inl hu,fun ρ w' hX hG hk=> ?_⟩,?_⟩
         · obtain⟨e0,(e1:(fun v w'=>SrX s v w') (ρ (.tmp 106)) w'),-⟩:=hk;refine Par.val_k fun K hK=> ?_;unfold Par.val
           (refine Par.val_call Tryz.func22 (by kernel_rfl) rfl e0 ?_;simp only[List.map_toArray,List.map_cons,List.map_nil];refine(lst_val e1 HSM.out).mono ?_;rintro e w2 ⟨⟨V,rfl,hr⟩,hx⟩;exact⟨_,rfl,hK _ _ ⟨hx,hr⟩⟩)
         refine⟨⟨fun _ _ u hu=> .inl hu,fun ρ w' hX hG hk=> ?_⟩,?_⟩
         · obtain⟨(e0:ρ (.tmp 11)=Value.pointer (some ⟨wb9,0,none⟩)),-⟩:=hk;refine Par.val_k fun K hK=> ?_;unfold Par.val
           (obtain⟨cc0,cc1,cc2,cc3,cc4,cc5,cc6,cc7,-⟩:=blk8 (hX.obj HK4.out.bx);go_simp;exact hK _ _ ⟨Ext.refl _,rfl⟩)
         refine⟨⟨fun _ _ u hu=> .inl hu,fun ρ w' hX hG hk=> ?_⟩,?_⟩
         · obtain⟨e0,(e1:(fun v w'=>RsX s v w') (ρ (.tmp 107)) w'),(e2:ρ (.tmp 108)=srV s va vb vc),-⟩:=hk;refine Par.val_k fun K hK=> ?_;unfold Par.val
           (refine Par.val_call Tryz.func21 (by kernel_rfl) rfl e0 ?_;simp only[List.map_toArray,List.map_cons,List.map_nil,e2];refine(rsame_val e1 (HK4.out.rsx.ext hX) HSM.out).mono ?_;rintro e w2 ⟨rfl,hx⟩;exact⟨_,rfl,hK _ _ ⟨hx,rfl⟩⟩)
         refine⟨⟨fun _ _=>trivial,fun _ _ _ _ hk=>Par.pv [(104,Value.bool true),(109,Value.bool true)] hk (by kernel_rfl) ⟨Ext.refl _,rfl⟩⟩,?_⟩
         refine⟨⟨fun _ _=>trivial,fun ρ w' hX hG hk=> ?_⟩,?_⟩
         · obtain⟨(e0:ρ (.tmp 110)=Value.bool true),-⟩:=hk;refine Par.val_k fun K hK=> ?_;unfold Par.val
           (go_simp;exact hK _ _ ⟨Ext.refl _,rfl⟩)
         trivial
       intro a' w' inv
       have hX:=inv.ext
       have q88:(fun v w'=>SrX s2 v w') (a'.tmps.getD 88 undef) w':=inv.done 4 _ 88 rfl rfl rfl
       have q89:(fun v w'=>RsX s2 v w') (a'.tmps.getD 89 undef) w':=inv.done 5 _ 89 rfl rfl rfl
       have q91:(fun v w'=>SrX s2 v w') (a'.tmps.getD 91 undef) w':=inv.done 7 _ 91 rfl rfl rfl
       have q92:(fun v w'=>RsX s2 v w') (a'.tmps.getD 92 undef) w':=inv.done 8 _ 92 rfl rfl rfl
       have q97:(fun v w'=>SrX s2 v w') (a'.tmps.getD 97 undef) w':=inv.done 13 _ 97 rfl rfl rfl
       have q98:(fun v w'=>RsX s2 v w') (a'.tmps.getD 98 undef) w':=inv.done 14 _ 98 rfl rfl rfl
       have q100:(fun v w'=>SrX s2 v w') (a'.tmps.getD 100 undef) w':=inv.done 16 _ 100 rfl rfl rfl
       have q101:(fun v w'=>RsX s2 v w') (a'.tmps.getD 101 undef) w':=inv.done 17 _ 101 rfl rfl rfl
       have q106:(fun v w'=>SrX s v w') (a'.tmps.getD 106 undef) w':=inv.done 22 _ 106 rfl rfl rfl
       have q107:(fun v w'=>RsX s v w') (a'.tmps.getD 107 undef) w':=inv.done 23 _ 107 rfl rfl rfl
       have hq:=Par.donesI inv;simp only[Par.dones,Par.EQ,true_and,and_true] at hq
       clear inv
       simp only[List.filterMap_cons,List.filterMap_nil,Par.putAll,Act.put,List.setIfInBounds_toArray,List.set_cons_succ,List.set_cons_zero,hq]
       clear hq
       generalize a'.tmps.getD 88 undef=u88 at*
       generalize a'.tmps.getD 89 undef=u89 at*
       generalize a'.tmps.getD 91 undef=u91 at*
       generalize a'.tmps.getD 92 undef=u92 at*
       generalize a'.tmps.getD 97 undef=u97 at*
       generalize a'.tmps.getD 98 undef=u98 at*
       generalize a'.tmps.getD 100 undef=u100 at*
       generalize a'.tmps.getD 101 undef=u101 at*
       generalize a'.tmps.getD 106 undef=u106 at*
       generalize a'.tmps.getD 107 undef=u107 at*
       clear a'
       have HE12:=hid (HE.out.trans hX)
       go_wp2
       go_returns
       exact⟨rfl,HE12.out⟩
end Go.Proofs.YtcfgafododiioaaGreatDoor
namespace Go.Proofs.YtcfgafododiioaaGreatDoor.indexCopies
open Go.ChangeShapes Go.WideShapes Go.ChangeAt Go.RowKit
open Go.ChangeMaps (open_string shut_string)
theorem own:ownKnob Tryz.prog.godebug=none:=by kernel_rfl
theorem kid1:laidOutB Tryz.prog=true:=by kernel_rfl
theorem kid2:mapsRowed Tryz.prog=true:=by kernel_rfl
theorem kid3:((List.range Tryz.prog.types.size).all fun t=>match Tryz.prog.underlying t with|some (.slice e)=>decide (0<Tryz.prog.cellsOf e)|_=>true)=true:=by kernel_rfl
theorem kid4:∀t∈Tryz.f12.params.toList,t<Tryz.prog.types.size:=by decide+kernel
theorem firstIs:Go.Pinned.utf8First=Lib.firstData:=by kernel_rfl
theorem acceptIs:(Rows.laid_unicode_utf8_acceptRanges:DataW Unit)=Lib.acceptData:=by kernel_rfl
theorem table {W:World} (h:laidMetH Tryz.prog Rows.indexCopiesRow.laid W):TB W:=by
 have h' : laidMet Tryz.prog [("unicode/utf8.acceptRanges", Lib.acceptData), ("unicode/utf8.first", Lib.firstData)] W := by
  rw[←acceptIs,←firstIs]
  exact h
 exact utf8Tabs_of_reads (ρ:=Tryz.lays230_ren) {Tryz.lays230 with} ⟨by kernel_rfl,by kernel_rfl,by kernel_rfl,by kernel_rfl,by kernel_rfl,by kernel_rfl,by kernel_rfl⟩ (Lib.laidMet.reads h' (.tail _ (.head _))) (Lib.laidMet.reads h' (.head _))
set_option maxRecDepth 100000 in
theorem contract (H:Type) (enc:TypeId×Value→H) (W:World) (base:Nat) (args:Array Value) (ds gs:List (DataW H)) (before:List MemPlace)
 (hval:∀(j:Nat) t v,Tryz.f12.params[j]? =some t→args[j]? =some v→Value.okWide Tryz.prog W .any base t v)
 (hW:DataW.Whole enc Tryz.prog Tryz.f12.params.toList Rows.indexCopiesSpec.vars false W args.toList ds gs before) (hL:laidMetH Tryz.prog Rows.indexCopiesRow.laid W):
 Calls Tryz.prog 12 args W fun e W'=>∃v,e= .returned v∧Rows.indexCopiesSpec.post enc Tryz.prog Tryz.f12 false true false false W args v W':=by
 have hW':=hW
 obtain⟨p,q,hA0,hV,rfl,hfz,hnd⟩:=hW
 have hA:DataW.TrodAll enc Tryz.prog W 0 (fun _=>true) true Tryz.f12.params.toList args.toList ds p:=hA0
 rw[Tryz.params12] at hA hval
 obtain⟨v0,vs0,d0,ds0,p0,q0,hargs,rfl,rfl,h0,r0⟩:=trodAll_cons hA
 obtain⟨v1,vs1,d1,ds1,p1,q1,rfl,rfl,rfl,h1,r1⟩:=trodAll_cons r0
 obtain⟨v2,vs2,d2,ds2,p2,q2,rfl,rfl,rfl,h2,r2⟩:=trodAll_cons r1
 obtain⟨rfl,rfl,rfl⟩:=trodAll_nil r2
 obtain rfl:args= #[v0,v1,v2]:=by cases args;simp_all
 obtain⟨rfl,rfl⟩:=trodVars_none hV
 obtain⟨la,pa,de,rfl⟩:=open_conf (hval 0 23 v0 rfl rfl) h0
 obtain⟨s1,hs1⟩:=open_stateS (hval 1 63 v1 rfl rfl) h1
 obtain⟨m2,hm2⟩:=open_actsI (hval 2 24 v2 rfl rfl) h2
 refine(indexCopies_law la pa de v1 s1 v2 m2 W hs1 hm2 (table hL)).mono fun e W' ⟨he,hg⟩=> ?_
 subst he
 exact⟨_,rfl,Go.Tum.law_post kid1 kid2 kid3 kid4 rfl Tryz.underlying4 hW' rfl rfl hg⟩
noncomputable def laidWorld (os:Os):World:=
 let w0:=World.holding Tryz.prog os ⟨#[],#[],[]⟩
 let put (h:Array Obj) (g:Nat) (cs:Array Value):Array Obj:=h.modify g fun
  | .cells _ t frozen=> .cells cs t frozen
  |o=>o
 {w0 with heap:=put (put w0.heap 0 (Lib.firstTab.map fun z=>Value.int .u8 z).toArray) 1 ((List.range 16).flatMap fun i=>[Value.int .u8 (Lib.accLo i),Value.int .u8 (Lib.accHi i)]).toArray}
theorem laid_met (os:Os):laidMet Tryz.prog Rows.indexCopiesRow.laid ((laidWorld os).forCall (fun _ _=>0) ⟨#[],#[.agg #[.int .i64 0,.int .i64 0,.int .i64 0],.agg #[.int .u64 0,.int .u64 0,.int .u64 0,.int .u64 0,.int .u64 0,.slice none 0 0,.slice none 0 0,.slice none 0 0],.slice none 0 0],[]⟩).memory:=
 laidMet_of_run3 10 (by kernel_rfl) (by kernel_rfl) (by kernel_rfl)
theorem reads (os:Os) {H:Type} (enc:TypeId×Value→H):∃places,DataW.whole enc Tryz.prog ((laidWorld os).forCall (fun _ _=>0) ⟨#[],#[.agg #[.int .i64 0,.int .i64 0,.int .i64 0],.agg #[.int .u64 0,.int .u64 0,.int .u64 0,.int .u64 0,.int .u64 0,.slice none 0 0,.slice none 0 0,.slice none 0 0],.slice none 0 0],[]⟩).memory Tryz.f12.params.toList Rows.indexCopiesSpec.vars false #[Value.agg #[.int .i64 0,.int .i64 0,.int .i64 0],Value.agg #[.int .u64 0,.int .u64 0,.int .u64 0,.int .u64 0,.int .u64 0,.slice none 0 0,.slice none 0 0,.slice none 0 0],.slice none 0 0].toList 8=some ([.agg [.lit (.int .i64 0),.lit (.int .i64 0),.lit (.int .i64 0)],.agg [.lit (.int .u64 0),.lit (.int .u64 0),.lit (.int .u64 0),.lit (.int .u64 0),.lit (.int .u64 0),.nil,.nil,.nil],.nil],[],places):=
 ⟨[],by kernel_rfl⟩
set_option maxRecDepth 100000 in
theorem lifted (os:Os) (started:os.Started) (H:Type) (enc:TypeId×Value→H) (F:Stop.Interp):
 ReturnsInHanded {} Tryz.checked os 12 .any ((OpenSpec.ofChange Rows.indexCopiesSpec).preRow enc Tryz.prog Tryz.f12 Rows.indexCopiesRow.domain false Rows.indexCopiesRow.laid) (((OpenSpec.ofChange Rows.indexCopiesSpec).at F).post enc Tryz.prog Tryz.f12 false true false false):=by
 obtain⟨places,hx⟩:=reads os enc
 refine returnsInHanded_of_row (C:=Tryz.checked) (s:=OpenSpec.ofChange Rows.indexCopiesSpec) own started (by kernel_rfl) Tryz.func12
  (witness_row_at (enc:=enc) (C:=Tryz.checked) false (laidWorld os) #[.agg #[.int .i64 0,.int .i64 0,.int .i64 0],.agg #[.int .u64 0,.int .u64 0,.int .u64 0,.int .u64 0,.int .u64 0,.slice none 0 0,.slice none 0 0,.slice none 0 0],.slice none 0 0] rfl (by kernel_rfl) (by kernel_rfl) (by kernel_rfl)
   (OpenSpec.preRow_of_cond 8 hx (by kernel_rfl) (fun k hk=>by cases hk) (by kernel_rfl) (laid_met os))) ?_
 intro W base args ds gs before hval hW _ _ _ hL _ _
 exact contract H enc W base args ds gs before hval hW hL
theorem said:Rows.IndexCopiesSaid:=
 OpenClaim.holds_of_cond 12 Tryz.f12 rfl rfl rfl rfl rfl rfl rfl ⟨rfl,rfl,rfl,rfl,rfl⟩ rfl rfl rfl rfl rfl (by kernel_rfl) Tryz.func12 (by kernel_rfl)
  (of_decide_eq_true (by kernel_rfl)) (by unfold Func.isWrapper;first|(rw[if_pos (by decide+kernel)];kernel_rfl)|(rw[if_neg (by decide+kernel)];exact⟨rfl,rfl⟩))
  (fun os started H enc _ F=>by rw[OpenClaim.pre_eq_preRow];exact lifted os started H enc F)
theorem plain (f : FuncId) (fn : Func) (hf : Tryz.pinned.checked.prog.funcNamed "tumbrel/tumbrellaw11.IndexCopies" = some f) (hfn : Tryz.pinned.checked.prog.funcs[f]? = some fn) :
 false=Tryz.pinned.checked.prog.looks []∧∀(j:Nat) t,fn.params[j]? =some t→Tryz.pinned.checked.prog.wantsStandIn t=false:=by
 obtain rfl : f = 12 := Option.some.inj ((show Tryz.prog.funcNamed "tumbrel/tumbrellaw11.IndexCopies" = some 12 by kernel_rfl).symm.trans hf) |>.symm
 obtain rfl:fn=Tryz.f12:=(Option.some.inj (Tryz.func12.symm.trans hfn)).symm
 refine⟨by kernel_rfl,fun j t ht=> ?_⟩
 rw[Tryz.params12] at ht
 have hm:=Array.mem_of_getElem? ht
 have hall:∀t∈Tryz.f12.params.toList,Tryz.prog.wantsStandIn t=false:=by decide+kernel
 rw[Tryz.params12] at hall
 exact hall t (by simpa using hm)
theorem proved:Rows.IndexCopiesCardSaid:=
 Claim7.holds_tied_plain_at .later [] _ _ _ _ said (fun _ h=>by cases h) (by kernel_rfl) (fun _ h=>by cases h) indexCopies_row_tie rfl ⟨rfl,rfl⟩ (by kernel_rfl) rfl plain (by kernel_rfl)
end Go.Proofs.YtcfgafododiioaaGreatDoor.indexCopies
