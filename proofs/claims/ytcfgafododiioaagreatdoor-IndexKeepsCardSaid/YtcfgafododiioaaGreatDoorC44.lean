/- Texts of a claim, side by side. -/
import Derived.Test.YtcfgafododiioaaGreatDoorC43
import Derived.Test.YtcfgafododiioaaGreatDoorC34
import Derived.Deep.QuietTactic
import Derived.BigQuiet
import Derived.Test.YtcfgafododiioaaGreatDoorC37
import Derived.Test.YtcfgafododiioaaGreatDoorC38
import Derived.Test.YtcfgafododiioaaGreatDoorC1
set_option linter.unusedSimpArgs false
set_option linter.unusedVariables false
set_option maxRecDepth 100000
namespace Go.Proofs.YtcfgafododiioaaGreatDoor
open Go Go.RowKit Go.Tum Go.ChangeMaps Go.Sort
open Go.ParB (upd Lof)
open Go.ParE (putS slotsR slots Closed)
set_option maxHeartbeats 1000000 in
theorem rrows_eq (u v:Value) (l:List (UInt64×UInt64)) (w:World) (hu:Sl w 2 u l.length (l.flatMap encR)) (hv:Sl w 2 v l.length (l.flatMap encR)):
 Calls Tryz.prog 59 #[u,v] w fun e w'=>e= .returned (.bool true)∧Ext w w':=by
 obtain⟨ao,cap,rfl⟩:∃a c,u= .slice a l.length c:=by obtain⟨-,a,c,e,-⟩:=hu;exact⟨a,c,e⟩
 obtain⟨bo,cbp,rfl⟩:∃a c,v= .slice a l.length c:=by obtain⟨-,a,c,e,-⟩:=hv;exact⟨a,c,e⟩
 obtain⟨hle,hm,hz,hc⟩:=Sl.cells hu
 obtain⟨hle2,hm2,hz2,hc2⟩:=Sl.cells hv
 have hmm:cap≤9223372036854775807:=by simpa[maxLen] using hm
 have hmm2:cbp≤9223372036854775807:=by simpa[maxLen] using hm2
 have HC:=hid hc
 have HC2:=hid hc2
 clear hu hv hc hc2 hm hm2
 have hne:((l.length:Int) !=(l.length:Int))=false:=by simp
 go_enter Tryz.func59,Tryz.ntmps59
 go_wp2
 go_loopw [5] (fun i wr=>∃k:Nat,k≤l.length∧i= .int .i64 k∧∃n,wr=w.drewN n) (fun i _=>l.length - (intOf i).toNat)
 case atStart=>exact⟨0,by omega,rfl,0,rfl⟩
 case round=>
  obtain⟨k,hk,rfl,n,rfl⟩:=hrel
  by_cases hlt:k<l.length
  · obtain⟨a,rfl⟩:∃a,ao=some a:=by
     cases ao with
     |none=>have:=hz rfl;omega
     |some a=>exact⟨a,rfl⟩
    obtain⟨b,rfl⟩:∃a,bo=some a:=by
     cases bo with
     |none=>have:=hz2 rfl;omega
     |some a=>exact⟨a,rfl⟩
    obtain⟨g0,g1⟩:=flat2_get (A:=fun z:UInt64×UInt64=>vU z.1) (Bf:=fun z=>vU z.2) l k hlt
    have r0:=cell_first (i:=k*2) (HC.out a rfl _ _ g0)
    have r1:=cell_next (i:=k*2) (j:=1) (HC.out a rfl _ _ g1) (by decide)
    have s0:=cell_first (i:=k*2) (HC2.out b rfl _ _ g0)
    have s1:=cell_next (i:=k*2) (j:=1) (HC2.out b rfl _ _ g1) (by decide)
    obtain⟨z,hz3⟩:∃z,l[k]=z:=⟨_,rfl⟩
    rw[hz3] at r0 r1 s0 s1
    obtain⟨z1,z2⟩:=z
    clear g0 g1 hz3
    have hi1:(k:Int)<l.length:=by omega
    go_wp2
    go_quiet (fail)
    go_wp2
    go_roundw
    case rel=>exact⟨k+1,by omega,by go_num,_,rfl⟩
    case measure=>simp[intOf];omega
  · have hkf:decide ((k:Int)<(l.length:Int))=false:=by simp;omega
    go_wp2
    go_returns
    exact⟨rfl,Ext.drewN _ _⟩
set_option maxHeartbeats 1000000 in
theorem rcurs_eq (u v:Value) (l:List Cur) (w:World) (hu:Sl w 2 u l.length (l.flatMap encC)) (hv:Sl w 2 v l.length (l.flatMap encC)):
 Calls Tryz.prog 60 #[u,v] w fun e w'=>e= .returned (.bool true)∧Ext w w':=by
 obtain⟨ao,cap,rfl⟩:∃a c,u= .slice a l.length c:=by obtain⟨-,a,c,e,-⟩:=hu;exact⟨a,c,e⟩
 obtain⟨bo,cbp,rfl⟩:∃a c,v= .slice a l.length c:=by obtain⟨-,a,c,e,-⟩:=hv;exact⟨a,c,e⟩
 obtain⟨hle,hm,hz,hc⟩:=Sl.cells hu
 obtain⟨hle2,hm2,hz2,hc2⟩:=Sl.cells hv
 have hmm:cap≤9223372036854775807:=by simpa[maxLen] using hm
 have hmm2:cbp≤9223372036854775807:=by simpa[maxLen] using hm2
 have HC:=hid hc
 have HC2:=hid hc2
 clear hu hv hc hc2 hm hm2
 have hne:((l.length:Int) !=(l.length:Int))=false:=by simp
 go_enter Tryz.func60,Tryz.ntmps60
 go_wp2
 go_loopw [5] (fun i wr=>∃k:Nat,k≤l.length∧i= .int .i64 k∧∃n,wr=w.drewN n) (fun i _=>l.length - (intOf i).toNat)
 case atStart=>exact⟨0,by omega,rfl,0,rfl⟩
 case round=>
  obtain⟨k,hk,rfl,n,rfl⟩:=hrel
  by_cases hlt:k<l.length
  · obtain⟨a,rfl⟩:∃a,ao=some a:=by
     cases ao with
     |none=>have:=hz rfl;omega
     |some a=>exact⟨a,rfl⟩
    obtain⟨b,rfl⟩:∃a,bo=some a:=by
     cases bo with
     |none=>have:=hz2 rfl;omega
     |some a=>exact⟨a,rfl⟩
    obtain⟨g0,g1⟩:=flat2_get (A:=fun z:Cur=>vN z.1) (Bf:=fun z=>vU z.2) l k hlt
    have r0:=cell_first (i:=k*2) (HC.out a rfl _ _ g0)
    have r1:=cell_next (i:=k*2) (j:=1) (HC.out a rfl _ _ g1) (by decide)
    have s0:=cell_first (i:=k*2) (HC2.out b rfl _ _ g0)
    have s1:=cell_next (i:=k*2) (j:=1) (HC2.out b rfl _ _ g1) (by decide)
    obtain⟨z,hz3⟩:∃z,l[k]=z:=⟨_,rfl⟩
    rw[hz3] at r0 r1 s0 s1
    obtain⟨z1,z2⟩:=z
    clear g0 g1 hz3
    have hi1:(k:Int)<l.length:=by omega
    go_wp2
    go_quiet (fail)
    go_wp2
    go_roundw
    case rel=>exact⟨k+1,by omega,by go_num,_,rfl⟩
    case measure=>simp[intOf];omega
  · have hkf:decide ((k:Int)<(l.length:Int))=false:=by simp;omega
    go_wp2
    go_returns
    exact⟨rfl,Ext.drewN _ _⟩
set_option maxHeartbeats 1000000 in
theorem rints_eq (u v:Value) (l:List Nat) (w:World) (hu:Sl w 1 u l.length (l.map vJ)) (hv:Sl w 1 v l.length (l.map vJ)):
 Calls Tryz.prog 41 #[u,v] w fun e w'=>e= .returned (.bool true)∧Ext w w':=by
 obtain⟨ao,cap,rfl⟩:∃a c,u= .slice a l.length c:=by obtain⟨-,a,c,e,-⟩:=hu;exact⟨a,c,e⟩
 obtain⟨bo,cbp,rfl⟩:∃a c,v= .slice a l.length c:=by obtain⟨-,a,c,e,-⟩:=hv;exact⟨a,c,e⟩
 obtain⟨hle,hm,hz,hc⟩:=Sl.cells hu
 obtain⟨hle2,hm2,hz2,hc2⟩:=Sl.cells hv
 have hmm:cap≤9223372036854775807:=by simpa[maxLen] using hm
 have hmm2:cbp≤9223372036854775807:=by simpa[maxLen] using hm2
 have HC:=hid hc
 have HC2:=hid hc2
 clear hu hv hc hc2 hm hm2
 have hne:((l.length:Int) !=(l.length:Int))=false:=by simp
 go_enter Tryz.func41,Tryz.ntmps41
 go_wp2
 go_loopw [5] (fun i wr=>∃k:Nat,k≤l.length∧i= .int .i64 k∧∃n,wr=w.drewN n) (fun i _=>l.length - (intOf i).toNat)
 case atStart=>exact⟨0,by omega,rfl,0,rfl⟩
 case round=>
  obtain⟨k,hk,rfl,n,rfl⟩:=hrel
  by_cases hlt:k<l.length
  · obtain⟨a,rfl⟩:∃a,ao=some a:=by
     cases ao with
     |none=>have:=hz rfl;omega
     |some a=>exact⟨a,rfl⟩
    obtain⟨b,rfl⟩:∃a,bo=some a:=by
     cases bo with
     |none=>have:=hz2 rfl;omega
     |some a=>exact⟨a,rfl⟩
    have g0:(l.map vJ)[k]? =some (vJ l[k]):=by rw[List.getElem?_map,List.getElem?_eq_getElem hlt];rfl
    have r0:=HC.out a rfl _ _ g0
    have s0:=HC2.out b rfl _ _ g0
    clear g0
    have hi1:(k:Int)<l.length:=by omega
    go_wp2
    go_quiet (fail)
    go_wp2
    go_roundw
    case rel=>exact⟨k+1,by omega,by go_num,_,rfl⟩
    case measure=>simp[intOf];omega
  · have hkf:decide ((k:Int)<(l.length:Int))=false:=by simp;omega
    go_wp2
    go_returns
    exact⟨rfl,Ext.drewN _ _⟩
set_option maxHeartbeats 2000000 in
theorem rsame11_eq {w:World} {s:SR} {a1 b1 c1 a2 b2 c2:Value} {B1 B2:Nat} (h1:RSt B1 w s a1 b1 c1) (h2:RSt B2 w s a2 b2 c2) (hlen:s.items.length≤100000):
 Calls Tryz.prog 21 #[srV s a1 b1 c1,srV s a2 b2 c2] w fun e w'=>e= .returned (.bool true)∧Ext w w':=by
 obtain⟨ao,acp,rfl⟩:=row_shape h1.ai
 obtain⟨bo,bcp,rfl⟩:=row_shape h1.bi
 obtain⟨co,ccp,rfl⟩:=row_shape h1.ci
 obtain⟨do',dcp,rfl⟩:=row_shape h2.ai
 obtain⟨eo,ecp,rfl⟩:=row_shape h2.bi
 obtain⟨fo,fcp,rfl⟩:=row_shape h2.ci
 obtain⟨W1,hW1⟩:∃W,w.alloc (.cells (srC s (.slice ao s.items.length acp) (.slice bo s.dead.length bcp) (.slice co s.curs.length ccp)) 57 (0,0))=W:=⟨_,rfl⟩
 obtain⟨W2,hW2⟩:∃W,W1.alloc (.cells (srC s (.slice do' s.items.length dcp) (.slice eo s.dead.length ecp) (.slice fo s.curs.length fcp)) 57 (0,0))=W:=⟨_,rfl⟩
 have e1:Ext w W1:=by rw[←hW1];exact Ext.alloc _ _
 have e2:Ext W1 W2:=by rw[←hW2];exact Ext.alloc _ _
 have k1:W2.heap[w.heap.size]? =some (.cells (srC s (.slice ao s.items.length acp) (.slice bo s.dead.length bcp) (.slice co s.curs.length ccp)) 57 (0,0)):=e2.obj (by rw[←hW1];exact heap_alloc_new _ _)
 have k2:W2.heap[W1.heap.size]? =some (.cells (srC s (.slice do' s.items.length dcp) (.slice eo s.dead.length ecp) (.slice fo s.curs.length fcp)) 57 (0,0)):=by rw[←hW2];exact heap_alloc_new _ _
 have HK1:=hid k1
 have HK2:=hid k2
 have HE:=hid (e1.trans e2)
 have H1:=hid (h1.ext (e1.trans e2))
 have H2:=hid (h2.ext (e1.trans e2))
 have HLEN:=hid hlen
 have hz1:ao=none→s.items.length=0:=fun e=>by obtain⟨h1,-,h3,-⟩:=Sl.cells (Sl.of_owns h1.ai);have:=h3 e;omega
 have hz2:do'=none→s.items.length=0:=fun e=>by obtain⟨h1,-,h3,-⟩:=Sl.cells (Sl.of_owns h2.ai);have:=h3 e;omega
 have HZ:=hid (And.intro hz1 hz2)
 have n0:((s.now.toNat:Int) !=(s.now.toNat:Int))=false:=by simp
 have n1:((s.next.toNat:Int) !=(s.next.toNat:Int))=false:=by simp
 have n2:((s.leases.toNat:Int) !=(s.leases.toNat:Int))=false:=by simp
 have n3:((s.turns.toNat:Int) !=(s.turns.toNat:Int))=false:=by simp
 have n4:((s.deaths.toNat:Int) !=(s.deaths.toNat:Int))=false:=by simp
 have n5:((s.items.length:Int) !=(s.items.length:Int))=false:=by simp
 obtain⟨x0,x1,x2,x3,x4,x5,x6,x7,-⟩:=blk8 k1
 obtain⟨y0,y1,y2,y3,y4,y5,y6,y7,-⟩:=blk8 k2
 clear h1 h2 hlen e1 e2 k1 k2 hz1 hz2
 go_enter Tryz.func21,Tryz.ntmps21
 go_wp2
 clear hW1 hW2 n0 n1 n2 n3 n4 n5
 obtain⟨g1,hg1⟩:∃g,w.heap.size=g:=⟨_,rfl⟩
 obtain⟨g2,hg2⟩:∃g,W1.heap.size=g:=⟨_,rfl⟩
 rw[hg1] at HK1 x0 x1 x2 x3 x4 x5 x6 x7
 rw[hg2] at HK2 y0 y1 y2 y3 y4 y5 y6 y7
 try rw[hg1]
 try rw[hg2]
 clear hg1 hg2 x0 x1 x2 x3 x4 x5 x6 x7 y0 y1 y2 y3 y4 y5 y6 y7
 go_loopw [5] (fun i wr=>∃k:Nat,k≤s.items.length∧i= .int .i64 (k:Int)∧Hid (Ext W2 wr)) (fun i _=>s.items.length - (intOf i).toNat)
 case atStart=>exact⟨0,by omega,rfl,hid (Ext.refl _)⟩
 case round=>
  obtain⟨k,hk,rfl,HX⟩:=hrel
  obtain⟨x0,x1,x2,x3,x4,x5,x6,x7,-⟩:=blk8 (HX.out.obj HK1.out)
  obtain⟨y0,y1,y2,y3,y4,y5,y6,y7,-⟩:=blk8 (HX.out.obj HK2.out)
  by_cases hlt:k<s.items.length
  · have hki:decide ((k:Int)<(s.items.length:Int))=true:=by simp;omega
    have hi1:(k:Int)<s.items.length:=by omega
    obtain⟨a,rfl⟩:∃a,ao=some a:=by
     cases ao with
     |none=>have:=HZ.out.1 rfl;omega
     |some a=>exact⟨a,rfl⟩
    obtain⟨d,rfl⟩:∃a,do'=some a:=by
     cases do' with
     |none=>have:=HZ.out.2 rfl;omega
     |some a=>exact⟨a,rfl⟩
    have HKM:=hid hlt
    obtain⟨z,hz2⟩:∃z,s.items[k]? =some z:=⟨_,List.getElem?_eq_getElem hlt⟩
    obtain⟨r0,r1,r2,r3,r4,r5,r6,r7,r8,r9⟩:=row10z ((Sl.of_owns H1.out.ai).ext HX.out) hz2
    obtain⟨s0,s1,s2,s3,s4,s5,s6,s7,s8,s9⟩:=row10z ((Sl.of_owns H2.out.ai).ext HX.out) hz2
    obtain⟨id,la,st,ct,du,tk,tu,sg,ps,sz⟩:=z
    dsimp only at r0 r1 r2 r3 r4 r5 r6 r7 r8 r9 s0 s1 s2 s3 s4 s5 s6 s7 s8 s9
    clear hz2
    go_wp2
    go_quiet (fail)
    go_wp2
    go_roundw
    case rel=>exact⟨k+1,HKM.out,next_i64L (by have:=HKM.out;have:=HLEN.out;omega),hid (HX.out.trans (Ext.drewN _ _))⟩
    case measure=>exact next_lessL (by have:=HKM.out;have:=HLEN.out;omega) HKM.out
  · have hkf:decide ((k:Int)<(s.items.length:Int))=false:=by simp;omega
    go_wp2_with fail
    refine(rrows_eq _ _ s.dead wr ((Sl.of_owns H1.out.bi).ext HX.out) ((Sl.of_owns H2.out.bi).ext HX.out)).mono ?_
    rintro e w5 ⟨rfl,hx5⟩
    have HX5:=hid (HX.out.trans hx5)
    clear x0 x1 x2 x3 x4 x5 x6 x7 y0 y1 y2 y3 y4 y5 y6 y7 hx5
    obtain⟨x0,x1,x2,x3,x4,x5,x6,x7,-⟩:=blk8 (HX5.out.obj HK1.out)
    obtain⟨y0,y1,y2,y3,y4,y5,y6,y7,-⟩:=blk8 (HX5.out.obj HK2.out)
    go_wp2_with fail
    refine(rcurs_eq _ _ s.curs w5 ((Sl.of_owns H1.out.ci).ext HX5.out) ((Sl.of_owns H2.out.ci).ext HX5.out)).mono ?_
    rintro e w6 ⟨rfl,hx6⟩
    have HX6:=hid (HX5.out.trans hx6)
    clear hx6
    go_wp2
    go_returns
    exact⟨rfl,HE.out.trans HX6.out⟩
end Go.Proofs.YtcfgafododiioaaGreatDoor
set_option maxRecDepth 100000
namespace Go.Proofs.YtcfgafododiioaaGreatDoor
open Go Go.RowKit Go.Tum Go.ChangeMaps Go.Sort
open Go.ParB (upd Lof)
open Go.ParE (putS slotsR slots Closed)
structure AwS (n:Nat) (q r:QR):Prop where
 xq:XQ n q
 xr:XQ n r
 s:SameQ q r
theorem aw_a0 (q:QR) (lane:Int) (delay sg ps:UInt64) (size:Int):actI q ⟨0,lane,0,0,delay,[],sg,ps,size⟩=({an0 with id:=(putQ q lane delay sg ps size).1,e:=(putQ q lane delay sg ps size).2.1},(putQ q lane delay sg ps size).2.2):=rfl
theorem aw_a1 (q:QR) (lane:Int) (n:UInt64):actI q ⟨1,lane,0,0,n,[],0,0,0⟩=({an0 with it:=(leaseQ q lane n).1,e:=(leaseQ q lane n).2.1},(leaseQ q lane n).2.2):=rfl
theorem aw_a3 (q:QR) (i n:UInt64):actI q ⟨3,0,0,i,n,[],0,0,0⟩=({an0 with it:=(nackQ q i n).1,e:=(nackQ q i n).2.1},(nackQ q i n).2.2):=rfl
theorem aw_a6 (q:QR) (i:UInt64):actI q ⟨6,0,0,i,0,[],0,0,0⟩=({an0 with e:=(deadQ q i 1).1},(deadQ q i 1).2):=rfl
theorem aw_a7 (q:QR) (i:UInt64):actI q ⟨7,0,0,i,0,[],0,0,0⟩=({an0 with e:=(deadQ q i 5).1},(deadQ q i 5).2):=rfl
theorem AwS.act {n:Nat} {q r:QR} (h:AwS n q r) (hn:n+300≤5000000000000000000) (a:Ai):(actI q a).1=(actI r a).1∧AwS (n+300) (actI q a).2 (actI r a).2:=by
 have e:=SameQ.act h.xq.wi h.xr.wi hn h.s a
 exact⟨e.1,h.xq.act hn a,h.xr.act hn a,e.2⟩
theorem AwS.put {n:Nat} {q r:QR} (h:AwS n q r) (hn:n+300≤5000000000000000000) (lane:Int) (delay sg ps:UInt64) (size:Int):
 (putQ q lane delay sg ps size).1=(putQ r lane delay sg ps size).1∧(putQ q lane delay sg ps size).2.1=(putQ r lane delay sg ps size).2.1∧AwS (n+300) (putQ q lane delay sg ps size).2.2 (putQ r lane delay sg ps size).2.2:=by
 have e:=h.act hn ⟨0,lane,0,0,delay,[],sg,ps,size⟩
 rw[aw_a0,aw_a0] at e
 exact⟨congrArg An.id e.1,congrArg An.e e.1,e.2⟩
theorem AwS.lease {n:Nat} {q r:QR} (h:AwS n q r) (hn:n+300≤5000000000000000000) (lane:Int) (m:UInt64):
 (leaseQ q lane m).1=(leaseQ r lane m).1∧(leaseQ q lane m).2.1=(leaseQ r lane m).2.1∧AwS (n+300) (leaseQ q lane m).2.2 (leaseQ r lane m).2.2:=by
 have e:=h.act hn ⟨1,lane,0,0,m,[],0,0,0⟩
 rw[aw_a1,aw_a1] at e
 exact⟨congrArg An.it e.1,congrArg An.e e.1,e.2⟩
theorem AwS.nack {n:Nat} {q r:QR} (h:AwS n q r) (hn:n+300≤5000000000000000000) (i m:UInt64):
 (nackQ q i m).1=(nackQ r i m).1∧(nackQ q i m).2.1=(nackQ r i m).2.1∧AwS (n+300) (nackQ q i m).2.2 (nackQ r i m).2.2:=by
 have e:=h.act hn ⟨3,0,0,i,m,[],0,0,0⟩
 rw[aw_a3,aw_a3] at e
 exact⟨congrArg An.it e.1,congrArg An.e e.1,e.2⟩
theorem AwS.dead1 {n:Nat} {q r:QR} (h:AwS n q r) (hn:n+300≤5000000000000000000) (i:UInt64):
 (deadQ q i 1).1=(deadQ r i 1).1∧AwS (n+300) (deadQ q i 1).2 (deadQ r i 1).2:=by
 have e:=h.act hn ⟨6,0,0,i,0,[],0,0,0⟩
 rw[aw_a6,aw_a6] at e
 exact⟨congrArg An.e e.1,e.2⟩
theorem AwS.dead5 {n:Nat} {q r:QR} (h:AwS n q r) (hn:n+300≤5000000000000000000) (i:UInt64):
 (deadQ q i 5).1=(deadQ r i 5).1∧AwS (n+300) (deadQ q i 5).2 (deadQ r i 5).2:=by
 have e:=h.act hn ⟨7,0,0,i,0,[],0,0,0⟩
 rw[aw_a7,aw_a7] at e
 exact⟨congrArg An.e e.1,e.2⟩
def aw0:QR:=baseQ 2 8 1 s0R ⟨0,[],[]⟩
theorem aw0_made:MadeR 0 2 8 1 s0R aw0:=by
 have h:=s0_ok 2 8 1
 unfold stateOk at h
 simp only[Bool.and_eq_true] at h
 exact made_of (m:=[]) (by kernel_rfl) (by kernel_rfl) h.2 (by simp[s0R]) ⟨Nat.le_refl _,Nat.le_refl _,Nat.le_refl _⟩ (List.Perm.refl _) List.Pairwise.nil
theorem aw_start {q:QR} (h:MadeR 0 2 8 1 s0R q):AwS 0 q aw0:=
 ⟨h.xq,aw0_made.xq,same_of h.xq.wi.wq aw0_made.xq.wi.wq h.xq.wi.wd aw0_made.xq.wi.wd (h.st.trans aw0_made.st.symm) (h.la.trans aw0_made.la.symm) (h.pa.trans aw0_made.pa.symm) (h.de.trans aw0_made.de.symm)⟩
def aw1:QR:=(putQ aw0 1 0 0 0 3).2.2
def aw2:QR:=(putQ aw1 0 0 0 0 0).2.2
def aw3:QR:=(leaseQ aw2 (-1) 5).2.2
def aw4:QR:=(nackQ aw3 1 0).2.2
def aw5:QR:=(putQ aw4 2 0 0 0 0).2.2
def aw6:QR:=(deadQ aw5 2 1).2
theorem aw1a:(putQ aw0 1 0 0 0 3).1=1:=by kernel_rfl
theorem aw1b:(putQ aw0 1 0 0 0 3).2.1=0:=by kernel_rfl
theorem aw2a:(putQ aw1 0 0 0 0 0).1=2:=by kernel_rfl
theorem aw2b:(putQ aw1 0 0 0 0 0).2.1=0:=by kernel_rfl
theorem aw3a:(leaseQ aw2 (-1) 5).1=⟨2,0,3,1,5,1,0,0,0,0⟩:=by kernel_rfl
theorem aw3b:(leaseQ aw2 (-1) 5).2.1=0:=by kernel_rfl
theorem aw4a:(nackQ aw3 1 0).1=⟨2,0,4,1,0,0,0,0,0,0⟩:=by kernel_rfl
theorem aw4b:(nackQ aw3 1 0).2.1=0:=by kernel_rfl
theorem aw5a:(putQ aw4 2 0 0 0 0).1=0:=by kernel_rfl
theorem aw5b:(putQ aw4 2 0 0 0 0).2.1=1:=by kernel_rfl
theorem aw6a:(deadQ aw5 2 1).1=0:=by kernel_rfl
theorem aw7a:(deadQ aw6 2 5).1=5:=by kernel_rfl
theorem aw5c:aw5.lanes=2∧aw5.pay=8∧aw5.del=1:=⟨by kernel_rfl,by kernel_rfl,by kernel_rfl⟩
theorem aw5d:cntT (aw5.its.map Prod.snd) 4=1∧cntK (aw5.its.map Prod.snd) 0=0∧cntK (aw5.its.map Prod.snd) 1=1:=⟨by kernel_rfl,by kernel_rfl,by kernel_rfl⟩
structure AwM (B:Nat) (w:World) (p:Nat) (x x':XP) (w':World):Prop where
 b:Below B w w'
 k:∀b o,w.heap[b]? =some o→b∉x.blk p→w'.heap[b]? =some o∧b∉x'.blk p
theorem aput_any {B n:Nat} {w:World} {p:Nat} {x:XP} {q r:QR} (h:IX B w p x q) (hB:B≤w.heap.size) (hs:AwS n q r) (hn:n+300≤5000000000000000000) (lane:Int) (delay sg ps:UInt64) (size:Int) {i:UInt64} {e0:Int}
 (h1:(putQ r lane delay sg ps size).1=i) (h2:(putQ r lane delay sg ps size).2.1=e0):
 Calls Tryz.prog 31 #[pv p,.int .i64 lane,vU delay,.agg #[vU sg,vU ps,.int .i64 size]] w fun e w'=>e= .returned (.tuple #[vU i,.int .i64 e0])∧∃x' q',IX B w' p x' q'∧AwS (n+300) q' (putQ r lane delay sg ps size).2.2∧AwM B w p x x' w':=by
 refine(put_any11 lane delay sg ps size h hB hs.xq.wi.wq).mono ?_
 rintro e w' ⟨rfl,hst⟩
 obtain⟨a,b,c⟩:=hs.put hn lane delay sg ps size
 obtain⟨x',i',bl,kk⟩:=hst.keep h.blo hB
 exact⟨by rw[a,b,h1,h2],x',_,i',c,bl,kk⟩
theorem alease_any {B n:Nat} {w:World} {p:Nat} {x:XP} {q r:QR} (h:IX B w p x q) (hB:B≤w.heap.size) (hs:AwS n q r) (hn:n+300≤5000000000000000000) (lane:Int) (m:UInt64) {i:It} {e0:Int}
 (h1:(leaseQ r lane m).1=i) (h2:(leaseQ r lane m).2.1=e0):
 Calls Tryz.prog 33 #[pv p,.int .i64 lane,vU m] w fun e w'=>e= .returned (.tuple #[itV i,.int .i64 e0])∧∃x' q',IX B w' p x' q'∧AwS (n+300) q' (leaseQ r lane m).2.2∧AwM B w p x x' w':=by
 refine(lease_any11 lane m h hB hs.xq.wi.wq (by have:=hs.xq.wi.lo.le;omega)).mono ?_
 rintro e w' ⟨rfl,hst⟩
 obtain⟨a,b,c⟩:=hs.lease hn lane m
 obtain⟨x',i',bl,kk⟩:=hst.keep h.blo hB
 exact⟨by rw[a,b,h1,h2],x',_,i',c,bl,kk⟩
theorem anack_any {B n:Nat} {w:World} {p:Nat} {x:XP} {q r:QR} (h:IX B w p x q) (hB:B≤w.heap.size) (hs:AwS n q r) (hn:n+300≤5000000000000000000) (t m:UInt64) {i:It} {e0:Int}
 (h1:(nackQ r t m).1=i) (h2:(nackQ r t m).2.1=e0):
 Calls Tryz.prog 35 #[pv p,vU t,vU m] w fun e w'=>e= .returned (.tuple #[itV i,.int .i64 e0])∧∃x' q',IX B w' p x' q'∧AwS (n+300) q' (nackQ r t m).2.2∧AwM B w p x x' w':=by
 refine(xnck_any t m h hB hs.xq.wi.wq).mono ?_
 rintro e w' ⟨rfl,hst⟩
 obtain⟨a,b,c⟩:=hs.nack hn t m
 obtain⟨x',i',bl,kk⟩:=hst.keep h.blo hB
 exact⟨by rw[a,b,h1,h2],x',_,i',c,bl,kk⟩
theorem areq_any {B n:Nat} {w:World} {p:Nat} {x:XP} {q r:QR} (h:IX B w p x q) (hB:B≤w.heap.size) (hs:AwS n q r) (hn:n+300≤5000000000000000000) (t:UInt64) {e0:Int} (h1:(deadQ r t 1).1=e0):
 Calls Tryz.prog 36 #[pv p,vU t] w fun e w'=>e= .returned (.int .i64 e0)∧∃x' q',IX B w' p x' q'∧AwS (n+300) q' (deadQ r t 1).2∧AwM B w p x x' w':=by
 refine(xrequeue_any t h hB hs.xq.wi.wq).mono ?_
 rintro e w' ⟨rfl,hst⟩
 obtain⟨a,c⟩:=hs.dead1 hn t
 obtain⟨x',i',bl,kk⟩:=hst.keep h.blo hB
 exact⟨by rw[a,h1],x',_,i',c,bl,kk⟩
theorem apur_any {B n:Nat} {w:World} {p:Nat} {x:XP} {q r:QR} (h:IX B w p x q) (hB:B≤w.heap.size) (hs:AwS n q r) (hn:n+300≤5000000000000000000) (t:UInt64) {e0:Int} (h1:(deadQ r t 5).1=e0):
 Calls Tryz.prog 37 #[pv p,vU t] w fun e w'=>e= .returned (.int .i64 e0)∧∃x' q',IX B w' p x' q'∧AwS (n+300) q' (deadQ r t 5).2∧AwM B w p x x' w':=by
 refine(xpurge_any t h hB hs.xq.wi.wq).mono ?_
 rintro e w' ⟨rfl,hst⟩
 obtain⟨a,c⟩:=hs.dead5 hn t
 obtain⟨x',i',bl,kk⟩:=hst.keep h.blo hB
 exact⟨by rw[a,h1],x',_,i',c,bl,kk⟩
theorem astats_any {B n:Nat} {w:World} {p:Nat} {x:XP} {q:QR} (h:IX B w p x q) (hs:AwS n q aw5):
 Calls Tryz.prog 26 #[pv p] w fun e w'=>(∃(a b:UInt64) (ro:Option Addr) (rc:Nat) (c d:Int),e= .returned (.agg #[vU a,vU b,.slice ro 2 rc,.int .i64 c,.int .i64 d,.int .i64 1])∧Sl w' 1 (.slice ro 2 rc) 2 ([0,1].map vJ))∧Ext w w':=by
 refine(stats_any h hs.xq.wi.wq).mono ?_
 rintro e w' ⟨⟨ro,rc,k,hk,rfl,ho⟩,hx⟩
 obtain⟨l1,l2,l3⟩:=aw5c
 obtain⟨c1,c2,c3⟩:=aw5d
 have hp:=(hs.s.perm hs.xq.wi.wq hs.xr.wi.wq).map Prod.snd
 have hk2:k=2:=by
  have:=hs.s.la
  rw[l1,hk] at this
  omega
 subst hk2
 rw[←cntT_perm hp,] at c1
 rw[←cntK_perm hp] at c2 c3
 have ho2:Sl w' 1 (.slice ro 2 rc) 2 ([0,1].map vJ):=by
  have:=Sl.of_owns ho
  rwa[show(List.range 2).map (cntK (q.its.map Prod.snd))=[0,1] by show[cntK _ 0,cntK _ 1]=_;rw[c2,c3]] at this
 refine⟨⟨q.now,q.next,ro,rc,(cntT (q.its.map Prod.snd) 2:Nat),(cntT (q.its.map Prod.snd) 3:Nat),?_,ho2⟩,hx⟩
 have hv:vJ (cntT (q.its.map Prod.snd) 4)= .int .i64 1:=by rw[c1];rfl
 exact congrArg (fun z=>Ending.returned (.agg #[vU q.now,vU q.next,.slice ro 2 rc,vJ (cntT (q.its.map Prod.snd) 2),vJ (cntT (q.its.map Prod.snd) 3),z])) hv
theorem afrom_any {n:Nat} {w:World} {q:QR} {vi vd vc:Value} {b:Nat} (hs:AwS n q aw5) (hn:n≤4611686018427387904) (h:SrO b w (stateQ q) vi vd vc) (ht:TB w):
 Calls Tryz.prog 28 #[ccV 2 8 1,srV (stateQ q) vi vd vc] w fun e w'=>∃X,e= .returned (.tuple #[pv X,.int .i64 0])∧Ext w w':=by
 obtain⟨o1,k1,rfl⟩:=row_shape h.it
 obtain⟨o2,k2,rfl⟩:=row_shape h.dd
 obtain⟨o3,k3,rfl⟩:=row_shape h.cu
 obtain⟨l1,l2,l3⟩:=aw5c
 have hok:=state_ok hs.xq hn
 rw[hs.s.la,hs.s.pa,hs.s.de,l1,l2,l3] at hok
 refine(ifrom_any n 2 8 1 (Sl.of_owns h.it) (Sl.of_owns h.dd) (Sl.of_owns h.cu) ht (by have:=dead_len hs.xq.wi.wq hs.xq.wi.wd;omega) (state_curs hs.xq.wi.wd) (fun _=>⟨hs.xq.wi.lo.le,hs.xq.wi.lo.tu,hs.xq.wi.lo.de⟩)).mono ?_
 rintro e w' ⟨hf,hx⟩
 rw[hok,if_pos (by rfl)] at hf
 obtain⟨X,x,r,rfl,-⟩:=hf
 exact⟨X,rfl,hx⟩
end Go.Proofs.YtcfgafododiioaaGreatDoor
set_option maxRecDepth 100000
namespace Go.Proofs.YtcfgafododiioaaGreatDoor
open Go Go.RowKit Go.Tum Go.ChangeMaps Go.Sort
open Go.ParB (upd Lof)
open Go.ParE (putS slotsR slots Closed)
abbrev awO3:Obj:= .cells #[.int .u64 2,.int .i64 0,.int .i64 3,.int .i64 1,.int .u64 5,.int .u64 1,.int .u64 0,.int .u64 0,.int .u64 0,.int .i64 0] 79 (0,0)
theorem aw_two (w:World) (e:Nat):Sl (w.alloc (.cells #[vJ 0,vJ 1] e (0,0))) 1 (.slice (some ⟨w.heap.size,0,none⟩) 2 2) 2 ([0,1].map vJ):=by
 have hblk:=heap_alloc_new w (.cells #[vJ 0,vJ 1] e (0,0))
 refine⟨rfl,some ⟨w.heap.size,0,none⟩,2,rfl,Nat.le_refl _,by simp[maxLen],(fun h=>by cases h),fun a ha j u hu=> ?_⟩
 cases ha
 have e1:(⟨w.heap.size,0,none⟩:Addr).add j=⟨w.heap.size,j,none⟩:=by unfold Addr.add;split<;>simp_all
 rw[e1,cell_of_row _ _ _ _ _ _ hblk]
 simpa using hu
set_option maxHeartbeats 2000000 in
theorem awake11_any (w:World) (ht:TB w):Calls Tryz.prog 13 #[] w fun e w'=>e= .returned (.bool true)∧Ext w w':=by
 have HT:=hid ht
 clear ht
 go_enter Tryz.func13,Tryz.ntmps13
 go_wp2_with fail
 refine(inew_any 2 8 1 HT.out).mono ?_
 rintro e w1 ⟨h,hx⟩
 rw[if_pos (by decide)] at h
 obtain⟨p,x,q,rfl,hI,hM⟩:=h
 have HI1:=hid hI
 have HS1:=hid (aw_start hM)
 have HE1:=hid hx
 clear hI hM hx
 go_wp2_with fail
 refine(aput_any HI1.out HE1.out.size HS1.out (by decide) 1 0 0 0 3 aw1a aw1b).mono ?_
 rintro e w2 ⟨rfl,x2,q2,hI,hS,hm⟩
 have HI2:=hid hI
 have HS2:Hid (AwS 300 q2 aw1):=hid hS
 have HE2:Hid (Ext w w2):=hid (Below.trans HE1.out hm.b)
 clear hI hS hm HI1 HS1
 go_wp2_with fail
 refine(aput_any HI2.out HE2.out.size HS2.out (by decide) 0 0 0 0 0 aw2a aw2b).mono ?_
 rintro e w3 ⟨rfl,x3,q3,hI,hS,hm⟩
 have HI3:=hid hI
 have HS3:Hid (AwS 600 q3 aw2):=hid hS
 have HE3:Hid (Ext w w3):=hid (Below.trans HE2.out hm.b)
 clear hI hS hm HI2 HS2
 go_wp2_with fail
 refine(alease_any HI3.out HE3.out.size HS3.out (by decide) (-1) 5 aw3a aw3b).mono ?_
 rintro e w4 ⟨rfl,x4,q4,hI,hS,hm⟩
 have HI4:=hid hI
 have HS4:Hid (AwS 900 q4 aw3):=hid hS
 have HE4:Hid (Ext w w4):=hid (Below.trans HE3.out hm.b)
 clear hI hS hm HI3 HS3
 have HI5:=fun o=>hid (HI4.out.ext (Ext.alloc w4 o))
 have HE5:=fun o=>hid (HE4.out.trans (Ext.alloc w4 o))
 go_wp2_with fail
 refine(anack_any (HI5 _).out (HE5 _).out.size HS4.out (by decide) 1 0 aw4a aw4b).mono ?_
 rintro e w6 ⟨rfl,x6,q6,hI,hS,hm⟩
 have HI6:=hid hI
 have HS6:Hid (AwS 1200 q6 aw4):=hid hS
 have HE6:Hid (Ext w w6):=hid (Below.trans (HE5 _).out hm.b)
 have HB6:=hid (hm.k w4.heap.size awO3 (heap_alloc_new _ _) HI4.out.new_nin)
 obtain⟨b7,hb7⟩:∃b,w4.heap.size=b:=⟨_,rfl⟩
 rw[hb7] at HB6
 try rw[hb7]
 clear hI hS hm HI5 HE5 HI4 HS4 hb7
 have HI7:=fun o=>hid (HI6.out.ext (Ext.alloc w6 o))
 have HE7:=fun o=>hid (HE6.out.trans (Ext.alloc w6 o))
 go_wp2_with fail
 refine(aput_any (HI7 _).out (HE7 _).out.size HS6.out (by decide) 2 0 0 0 0 aw5a aw5b).mono ?_
 rintro e w8 ⟨rfl,x8,q8,hI,hS,hm⟩
 have HI8:=hid hI
 have HS8:Hid (AwS 1500 q8 aw5):=hid hS
 have HE8:Hid (Ext w w8):=hid (Below.trans (HE7 _).out hm.b)
 have HB8:=hid (hm.k b7 awO3 ((Ext.alloc w6 _).obj HB6.out.1) HB6.out.2)
 clear hI hS hm HI7 HE7 HI6 HS6 HB6
 go_wp2_with fail
 refine(astats_any HI8.out HS8.out).mono ?_
 rintro e w9 ⟨⟨a,b,ro,rc,c,d,rfl,hsl⟩,hx⟩
 have HI9:=hid (HI8.out.ext hx)
 have HE9:=hid (HE8.out.trans hx)
 have HB9:=hid (hx.obj HB8.out.1)
 have HL9:=hid hsl
 clear hsl hx HI8 HE8 HB8
 obtain⟨w10,hw10⟩:∃W,w9.alloc (.cells #[vU a,vU b,.slice ro 2 rc,.int .i64 c,.int .i64 d,.int .i64 1] 69 (0,0))=W:=⟨_,rfl⟩
 have e10:Ext w9 w10:=by rw[←hw10];exact Ext.alloc _ _
 have HI10:=hid (HI9.out.ext e10)
 have HE10:=hid (HE9.out.trans e10)
 have HB10:=hid (e10.obj HB9.out)
 have HL10:=hid (HL9.out.ext e10)
 have HC10:Hid (w10.heap[w9.heap.size]? =some (.cells #[vU a,vU b,.slice ro 2 rc,.int .i64 c,.int .i64 d,.int .i64 1] 69 (0,0))):=hid (by rw[←hw10];exact heap_alloc_new _ _)
 clear e10 HI9 HE9 HB9 HL9
 go_wp2_with fail
 clear hw10
 obtain⟨b13,hb13⟩:∃b,w9.heap.size=b:=⟨_,rfl⟩
 rw[hb13] at HC10
 try rw[hb13]
 clear hb13
 refine(state_any HI10.out HS8.out.xq.wi.wq HS8.out.xq.wi.wd (TBx HT.out HE10.out)).mono ?_
 rintro e w11 ⟨⟨vi,vd,vc,rfl,ho⟩,hx⟩
 have hf:=fun W (k:Ext w11 W)=>afrom_any (w:=W) HS8.out (by decide) (⟨k.owns ho.it,k.owns ho.dd,k.owns ho.cu⟩:SrO w10.heap.size W _ vi vd vc) (TBx HT.out ((HE10.out.trans hx).trans k))
 obtain⟨V,hV⟩:∃V,srV (stateQ q8) vi vd vc=V:=⟨_,rfl⟩
 rw[hV] at hf
 try rw[hV]
 have HF:=hid hf
 have HI11:=hid (HI10.out.ext hx)
 have HE11:=hid (HE10.out.trans hx)
 have HB11:=hid (hx.obj HB10.out)
 have HL11:=hid (HL10.out.ext hx)
 have HC11:=hid (hx.obj HC10.out)
 clear ho hf hV hx HI10 HE10 HB10 HL10 HC10
 go_wp2_with fail
 refine(HF.out w11 (Ext.refl _)).mono ?_
 rintro e w12 ⟨X,rfl,hx⟩
 have HI12:=hid (HI11.out.ext hx)
 have HE12:=hid (HE11.out.trans hx)
 have HL12:=hid (HL11.out.ext hx)
 have r0:=(blk10 (hx.obj HB11.out)).1
 obtain⟨-,-,g2,-,-,g5,-⟩:=blk6s (hx.obj HC11.out)
 clear hx HI11 HE11 HB11 HL11 HC11 HF
 go_wp2_with fail
 clear r0 g2 g5
 refine(rints_eq _ _ [0,1] _ (HL12.out.ext (Ext.alloc _ _)) (aw_two _ _)).mono ?_
 rintro e w13 ⟨rfl,hx⟩
 have HI13:=hid (HI12.out.ext ((Ext.alloc _ _).trans hx))
 have HE13:=hid (HE12.out.trans ((Ext.alloc _ _).trans hx))
 clear hx HI12 HE12 HL12
 go_wp2_with fail
 refine(areq_any HI13.out HE13.out.size HS8.out (by decide) 2 aw6a).mono ?_
 rintro e w14 ⟨rfl,x14,q14,hI,hS,hm⟩
 have HI14:=hid hI
 have HS14:Hid (AwS 1800 q14 aw6):=hid hS
 have HE14:Hid (Ext w w14):=hid (Below.trans HE13.out hm.b)
 clear hI hS hm HI13 HS8 HE13
 go_wp2_with fail
 refine(apur_any HI14.out HE14.out.size HS14.out (by decide) 2 aw7a).mono ?_
 rintro e w15 ⟨rfl,x15,q15,hI,hS,hm⟩
 have HE15:Hid (Ext w w15):=hid (Below.trans HE14.out hm.b)
 clear hI hS hm HI14 HS14 HE14
 go_wp2_with fail
 refine(right_any11 1 0 20 w15).mono ?_
 rintro e w16 ⟨rfl,hx⟩
 rw[show rightC 1 0 20=true by decide]
 have HE16:=hid (HE15.out.trans hx)
 clear hx HE15
 go_wp2
 go_returns
 exact⟨rfl,HE16.out⟩
end Go.Proofs.YtcfgafododiioaaGreatDoor
namespace Go.Tum
open Go Go.RowKit Go.WideShapes Go.ChangeShapes Go.Deep
variable {H : Type} {enc : TypeId × Value → H} {P : Program} {w : World} {base : Nat} {spare : Nat → Bool} {held : Bool}
theorem u64_of {n:Int} (h:(Lit.int .u64 n).wf=true):∃x:UInt64,n=(x.toNat:Int):=by
 have hb:0≤n∧n≤18446744073709551615:=by simpa[Lit.wf,IntKind.min,IntKind.max,IntKind.signed,IntKind.bits] using h
 refine⟨UInt64.ofNat n.toNat,?_⟩
 simp
 omega
end Go.Tum
