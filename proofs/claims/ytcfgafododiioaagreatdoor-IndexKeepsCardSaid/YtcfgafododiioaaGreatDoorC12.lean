/- Texts of a claim, side by side. -/
import Derived.Test.YtcfgafododiioaaGreatDoorRows
import Derived.Test.YtcfgafododiioaaGreatDoorC1
import Derived.Deep.QuietTactic
import Derived.BigQuiet
import Derived.Handy
import Derived.Test.YtcfgafododiioaaGreatDoorC3
import Derived.Test.YtcfgafododiioaaGreatDoorC9
import Derived.Test.YtcfgafododiioaaGreatDoorC10
import Derived.Test.YtcfgafododiioaaGreatDoorC11
set_option linter.unusedSimpArgs false
set_option linter.unusedVariables false
namespace Go.Proofs.YtcfgafododiioaaGreatDoor
open Go.RowKit Go.Tum
abbrev U64 (x:Int):Prop:=0≤x∧x≤18446744073709551615
structure L where
 s:Int
 c:Int
 d:Int
 t:Int
deriving DecidableEq
abbrev lv (x:L):Value:= .agg #[.int .i64 x.s,.int .i64 x.c,.int .u64 x.d,.int .u64 x.t]
abbrev l0:L:=⟨0,0,0,0⟩
abbrev tl (r:L×Int):Value:= .tuple #[lv r.1,.int .i64 r.2]
abbrev overP (now more:Int):Prop:=18446744073709551615 - now<more
def waitL (x:L) (now more:Int):L×Int:=if more=0 then(⟨1,x.c,0,0⟩,0) else if overP now more then(l0,10) else(⟨2,x.c,now+more,0⟩,0)
def leaseL (x:L) (now span k:Int):L×Int:=if x.s≠1 then(l0,11) else if span=0 then(l0,1) else if overP now span then(l0,10) else(⟨3,wrap64 (x.c+1),now+span,k⟩,0)
def endL (x:L) (most:Int):L:=if most≤x.c then⟨4,x.c,0,0⟩ else⟨1,x.c,0,0⟩
def ackL (x:L) (k:Int):L×Int:=if x.s=3∧x.t=k then(⟨5,0,0,0⟩,0) else(l0,9)
def nackL (x:L) (k now delay most:Int):L×Int:=if x.s=3∧x.t=k then(if most≤x.c then(endL x most,0) else waitL x now delay) else(l0,9)
def extendL (x:L) (k now span:Int):L×Int:=if x.s=3∧x.t=k then(if span=0 then(l0,1) else if overP now span then(l0,10) else(⟨3,x.c,now+span,k⟩,0)) else(l0,9)
def passL (x:L) (now most:Int):L:=if now<x.d then x else if x.s=2 then⟨1,x.c,0,x.t⟩ else if x.s=3 then endL x most else x
def deadL (x:L) (s:Int):L×Int:=if x.s=4 then(⟨s,0,0,0⟩,0) else(l0,5)
def resetL (x:L) (most:Int):L:=if x.s=3 then endL x most else x
set_option maxRecDepth 100000 in
set_option maxHeartbeats 1000000 in
theorem ack_any (x:L) (k:Int) (w:World):
 Calls Tryz.prog 89 #[lv x,.int .u64 k] w fun e w'=>e= .returned (tl (ackL x k))∧Ext w w':=by
 obtain⟨s,c,d,t⟩:=x
 go_enter Tryz.func89,Tryz.ntmps89
 go_wp2
 (all_goals (go_returns;refine⟨?_,by(repeat' (first|(with_reducible exact Below.refl _ _)|(with_reducible assumption)|(with_reducible refine Below.alloc ?_ ?_ _)|(with_reducible refine Below.drew ?_)|(with_reducible refine Below.setCell ?_ ?_ _)|(refine Go.Tum.Ext.trans ?_ (by with_reducible assumption))|go_size))⟩;simp_all[waitL,leaseL,endL,ackL,nackL,extendL,passL,deadL,resetL,overP]<;>(repeat' split)<;>(first|omega|(simp_all;done)|(simp_all;omega))))
set_option maxRecDepth 100000 in
set_option maxHeartbeats 1000000 in
theorem lease_any (x:L) (now span k:Int) (h1:U64 now) (h2:U64 span) (w:World):
 Calls Tryz.prog 78 #[lv x,.int .u64 now,.int .u64 span,.int .u64 k] w fun e w'=>e= .returned (tl (leaseL x now span k))∧Ext w w':=by
 obtain⟨s,c,d,t⟩:=x;obtain⟨h1a,h1b⟩:=h1;obtain⟨h2a,h2b⟩:=h2
 go_enter Tryz.func78,Tryz.ntmps78
 go_wp2
 (all_goals (go_returns;refine⟨?_,by(repeat' (first|(with_reducible exact Below.refl _ _)|(with_reducible assumption)|(with_reducible refine Below.alloc ?_ ?_ _)|(with_reducible refine Below.drew ?_)|(with_reducible refine Below.setCell ?_ ?_ _)|(refine Go.Tum.Ext.trans ?_ (by with_reducible assumption))|go_size))⟩;simp_all[waitL,leaseL,endL,ackL,nackL,extendL,passL,deadL,resetL,overP]<;>(repeat' split)<;>(first|omega|(simp_all;done)|(simp_all;omega))))
set_option maxRecDepth 100000 in
set_option maxHeartbeats 1000000 in
theorem nack_any (x:L) (k now delay most:Int) (h1:U64 now) (h2:U64 delay) (w:World):
 Calls Tryz.prog 83 #[lv x,.int .u64 k,.int .u64 now,.int .u64 delay,.int .i64 most] w fun e w'=>e= .returned (tl (nackL x k now delay most))∧Ext w w':=by
 obtain⟨s,c,d,t⟩:=x;obtain⟨h1a,h1b⟩:=h1;obtain⟨h2a,h2b⟩:=h2
 go_enter Tryz.func83,Tryz.ntmps83
 go_wp2
 (all_goals (go_returns;refine⟨?_,by(repeat' (first|(with_reducible exact Below.refl _ _)|(with_reducible assumption)|(with_reducible refine Below.alloc ?_ ?_ _)|(with_reducible refine Below.drew ?_)|(with_reducible refine Below.setCell ?_ ?_ _)|(refine Go.Tum.Ext.trans ?_ (by with_reducible assumption))|go_size))⟩;simp_all[waitL,leaseL,endL,ackL,nackL,extendL,passL,deadL,resetL,overP]<;>(repeat' split)<;>(first|omega|(simp_all;done)|(simp_all;omega))))
set_option maxRecDepth 100000 in
set_option maxHeartbeats 1000000 in
theorem extend_any (x:L) (k now span:Int) (h1:U64 now) (h2:U64 span) (w:World):
 Calls Tryz.prog 91 #[lv x,.int .u64 k,.int .u64 now,.int .u64 span] w fun e w'=>e= .returned (tl (extendL x k now span))∧Ext w w':=by
 obtain⟨s,c,d,t⟩:=x;obtain⟨h1a,h1b⟩:=h1;obtain⟨h2a,h2b⟩:=h2
 go_enter Tryz.func91,Tryz.ntmps91
 go_wp2
 (all_goals (go_returns;refine⟨?_,by(repeat' (first|(with_reducible exact Below.refl _ _)|(with_reducible assumption)|(with_reducible refine Below.alloc ?_ ?_ _)|(with_reducible refine Below.drew ?_)|(with_reducible refine Below.setCell ?_ ?_ _)|(refine Go.Tum.Ext.trans ?_ (by with_reducible assumption))|go_size))⟩;simp_all[waitL,leaseL,endL,ackL,nackL,extendL,passL,deadL,resetL,overP]<;>(repeat' split)<;>(first|omega|(simp_all;done)|(simp_all;omega))))
set_option maxRecDepth 100000 in
set_option maxHeartbeats 1000000 in
theorem pass_any (x:L) (now most:Int) (w:World):
 Calls Tryz.prog 80 #[lv x,.int .u64 now,.int .i64 most] w fun e w'=>e= .returned (lv (passL x now most))∧Ext w w':=by
 obtain⟨s,c,d,t⟩:=x
 go_enter Tryz.func80,Tryz.ntmps80
 go_wp2
 (all_goals (go_returns;refine⟨?_,by(repeat' (first|(with_reducible exact Below.refl _ _)|(with_reducible assumption)|(with_reducible refine Below.alloc ?_ ?_ _)|(with_reducible refine Below.drew ?_)|(with_reducible refine Below.setCell ?_ ?_ _)|(refine Go.Tum.Ext.trans ?_ (by with_reducible assumption))|go_size))⟩;simp_all[waitL,leaseL,endL,ackL,nackL,extendL,passL,deadL,resetL,overP]<;>(repeat' split)<;>(first|omega|(simp_all;done)|(simp_all;omega))))
set_option maxRecDepth 100000 in
set_option maxHeartbeats 1000000 in
theorem reset_any (x:L) (most:Int) (w:World):
 Calls Tryz.prog 94 #[lv x,.int .i64 most] w fun e w'=>e= .returned (lv (resetL x most))∧Ext w w':=by
 obtain⟨s,c,d,t⟩:=x
 go_enter Tryz.func94,Tryz.ntmps94
 go_wp2
 (all_goals (go_returns;refine⟨?_,by(repeat' (first|(with_reducible exact Below.refl _ _)|(with_reducible assumption)|(with_reducible refine Below.alloc ?_ ?_ _)|(with_reducible refine Below.drew ?_)|(with_reducible refine Below.setCell ?_ ?_ _)|(refine Go.Tum.Ext.trans ?_ (by with_reducible assumption))|go_size))⟩;simp_all[waitL,leaseL,endL,ackL,nackL,extendL,passL,deadL,resetL,overP]<;>(repeat' split)<;>(first|omega|(simp_all;done)|(simp_all;omega))))
set_option maxRecDepth 100000 in
set_option maxHeartbeats 1000000 in
theorem requeue_any (x:L) (w:World):
 Calls Tryz.prog 85 #[lv x] w fun e w'=>e= .returned (tl (deadL x 1))∧Ext w w':=by
 obtain⟨s,c,d,t⟩:=x
 go_enter Tryz.func85,Tryz.ntmps85
 go_wp2
 (all_goals (go_returns;refine⟨?_,by(repeat' (first|(with_reducible exact Below.refl _ _)|(with_reducible assumption)|(with_reducible refine Below.alloc ?_ ?_ _)|(with_reducible refine Below.drew ?_)|(with_reducible refine Below.setCell ?_ ?_ _)|(refine Go.Tum.Ext.trans ?_ (by with_reducible assumption))|go_size))⟩;simp_all[waitL,leaseL,endL,ackL,nackL,extendL,passL,deadL,resetL,overP]<;>(repeat' split)<;>(first|omega|(simp_all;done)|(simp_all;omega))))
set_option maxRecDepth 100000 in
set_option maxHeartbeats 1000000 in
theorem purge_any (x:L) (w:World):
 Calls Tryz.prog 86 #[lv x] w fun e w'=>e= .returned (tl (deadL x 5))∧Ext w w':=by
 obtain⟨s,c,d,t⟩:=x
 go_enter Tryz.func86,Tryz.ntmps86
 go_wp2
 (all_goals (go_returns;refine⟨?_,by(repeat' (first|(with_reducible exact Below.refl _ _)|(with_reducible assumption)|(with_reducible refine Below.alloc ?_ ?_ _)|(with_reducible refine Below.drew ?_)|(with_reducible refine Below.setCell ?_ ?_ _)|(refine Go.Tum.Ext.trans ?_ (by with_reducible assumption))|go_size))⟩;simp_all[waitL,leaseL,endL,ackL,nackL,extendL,passL,deadL,resetL,overP]<;>(repeat' split)<;>(first|omega|(simp_all;done)|(simp_all;omega))))
set_option maxRecDepth 100000 in
set_option maxHeartbeats 1000000 in
theorem born_any (now more:Int) (h1:U64 now) (h2:U64 more) (w:World):
 Calls Tryz.prog 75 #[.int .u64 now,.int .u64 more] w fun e w'=>e= .returned (tl (waitL l0 now more))∧Ext w w':=by
 obtain⟨h1a,h1b⟩:=h1;obtain⟨h2a,h2b⟩:=h2
 go_enter Tryz.func75,Tryz.ntmps75
 go_wp2
 (all_goals (go_returns;refine⟨?_,by(repeat' (first|(with_reducible exact Below.refl _ _)|(with_reducible assumption)|(with_reducible refine Below.alloc ?_ ?_ _)|(with_reducible refine Below.drew ?_)|(with_reducible refine Below.setCell ?_ ?_ _)|(refine Go.Tum.Ext.trans ?_ (by with_reducible assumption))|go_size))⟩;simp_all[waitL,leaseL,endL,ackL,nackL,extendL,passL,deadL,resetL,overP]<;>(repeat' split)<;>(first|omega|(simp_all;done)|(simp_all;omega))))
end Go.Proofs.YtcfgafododiioaaGreatDoor
namespace Go.Proofs.YtcfgafododiioaaGreatDoor
open Go Go.RowKit Go.Tum Go.ChangeMaps
theorem HB.keep {S:List Nat} {B:Nat} {w w':World} {p mt mp:Nat} {At:UInt64→Option Int} {row:List UInt64} {v:Value} (h:HB B w p mt mp At row v) (f:Fr S w w') (hs:∀x∈Hb p mt mp v,x∉S):HB B w' p mt mp At row v:=by
 refine⟨⟨(f.block p (Array.getElem?_eq_some_iff.1 h.tr.hd).1 (hs p (by simp[Hb]))).trans h.tr.hd,h.tr.ti.fr f (hs mt (by simp[Hb])),h.tr.pl.fr f (hs mp (by simp[Hb])),?_,h.tr.nd,h.tr.ne⟩,h.has,h.hp,h.bp,h.bt,h.bm⟩
 refine⟨h.tr.ow.1,?_⟩
 rcases h.tr.ow.2 with hn|⟨g,cap,cur,hv,hb,hgg,rest⟩
 · exact .inl hn
 · exact .inr ⟨g,cap,cur,hv,hb,(f.block g (Array.getElem?_eq_some_iff.1 hgg).1 (hs g (by rw[hv];simp[Hb,Value.ownBlock]))).trans hgg,rest⟩
theorem HB.lt {B:Nat} {w:World} {p mt mp:Nat} {At:UInt64→Option Int} {row:List UInt64} {v:Value} (h:HB B w p mt mp At row v):∀x∈Hb p mt mp v,x<w.heap.size:=by
 obtain⟨e1,c1,h1⟩:=h.tr.ti.block
 obtain⟨e2,c2,h2⟩:=h.tr.pl.block
 intro x hx
 simp only[Hb,List.mem_cons] at hx
 rcases hx with rfl|rfl|rfl|hm
 · exact(Array.getElem?_eq_some_iff.1 h.tr.hd).1
 · exact(Array.getElem?_eq_some_iff.1 h1).1
 · exact(Array.getElem?_eq_some_iff.1 h2).1
 · rcases h.tr.ow.2 with ⟨e,_⟩|⟨g,cap,cur,hv,_,hgg,_⟩
   · rw[e] at hm;simp[Value.ownBlock] at hm
   · rw[hv] at hm
     simp[Value.ownBlock] at hm
     subst hm
     exact(Array.getElem?_eq_some_iff.1 hgg).1
structure QR where
 lanes:Int
 pay:Int
 del:Int
 now:UInt64
 next:UInt64
 leases:UInt64
 turns:UInt64
 its:List (UInt64×It)
 rows:Nat→List UInt64
 wat:UInt64→Option Int
 hld:List (UInt64×UInt64)
 dd:PD
structure XP where
 mi:Nat
 mh:Nat
 lp:Nat→Nat×Nat×List (UInt64×Nat)
 hp:Nat
 mt:Nat
 mp:Nat
 row:List UInt64
 hv:Value
 dp:Nat
 dm:Nat
 ds:Nat
abbrev idxC (x:XP) (q:QR):Array Value:= #[.int .i64 q.lanes,.int .i64 q.pay,.int .i64 q.del,vU q.now,vU q.next,vU q.leases,vU q.turns,.map (some x.mi),pv (x.lp 0).1,pv (x.lp 1).1,pv (x.lp 2).1,pv (x.lp 3).1,pv (x.lp 4).1,pv (x.lp 5).1,pv (x.lp 6).1,pv (x.lp 7).1,pv x.hp,.map (some x.mh),pv x.dp]
abbrev idxO (x:XP) (q:QR):Obj:= .cells (idxC x q) 136 (0,0)
def XP.comp (x:XP) (p:Nat):Nat→List Nat
 |0=>[p,x.mi,x.mh]
 |1=>Hb x.hp x.mt x.mp x.hv
 |2=>[x.dp,x.dm,x.ds]
 |n+3=>Bl (x.lp n).1 (x.lp n).2.1 (x.lp n).2.2
structure Sep (B n:Nat) (c:Nat→List Nat):Prop where
 ap:∀i j,i<11→j<11→i≠j→∀a∈c i,a∉c j
 lo:∀i,i<11→∀a∈c i,B≤a∧a<n
structure IX (B:Nat) (w:World) (p:Nat) (x:XP) (q:QR):Prop where
 hd:w.heap[p]? =some (idxO x q)
 im:PMI w x.mi q.its
 ni:(q.its.map Prod.fst).Nodup
 hm:PMU w x.mh q.hld
 nh:(q.hld.map Prod.fst).Nodup
 ne:x.mi≠x.mh
 ln:∀n,n<8→Lane w (x.lp n).1 (x.lp n).2.1 (x.lp n).2.2
 rw:∀n,n<8→ids (x.lp n).2.2=q.rows n
 du:HB B w x.hp x.mt x.mp q.wat x.row x.hv
 de:DD w x.dp x.dm x.ds q.dd
 sp:Sep B w.heap.size (x.comp p)
def XP.blk (x:XP) (p:Nat):List Nat:=(List.range 11).flatMap (x.comp p)
theorem XP.mem_blk {x:XP} {p q:Nat}:q∈x.blk p↔∃i,i<11∧q∈x.comp p i:=by
 unfold XP.blk
 simp[List.mem_flatMap]
theorem Sep.turn {B n n':Nat} {c c':Nat→List Nat} (h:Sep B n c) (i:Nat) (hn:n≤n') (hB:B≤n) (ho:∀j,j<11→j≠i→c' j=c j) (hi:∀a∈c' i,(a∈c i∨n≤a)∧a<n'):Sep B n' c':=by
 refine⟨fun j k hj hk hjk a ha=> ?_,fun j hj a ha=> ?_⟩
 · by_cases e1:j=i
   · subst e1
     rw[ho k hk (Ne.symm hjk)]
     intro hm
     rcases(hi a ha).1 with h1|h1
     · exact h.ap j k hj hk hjk a h1 hm
     · have:=(h.lo k hk a hm).2;omega
   · rw[ho j hj e1] at ha
     by_cases e2:k=i
     · subst e2
       intro hm
       rcases(hi a hm).1 with h1|h1
       · exact h.ap j k hj hk hjk a ha h1
       · have:=(h.lo j hj a ha).2;omega
     · rw[ho k hk e2]
       exact h.ap j k hj hk hjk a ha
 · by_cases e1:j=i
   · subst e1
     obtain⟨h1,h2⟩:=hi a ha
     rcases h1 with h1|h1
     · exact⟨(h.lo j hj a h1).1,h2⟩
     · exact⟨by omega,h2⟩
   · rw[ho j hj e1] at ha
     have:=h.lo j hj a ha
     exact⟨this.1,by omega⟩
section
variable {B : Nat} {w w' : World} {p : Nat} {x : XP} {q : QR}
theorem IX.fr (h:IX B w p x q) {S:List Nat} (f:Fr S w w') (hs:∀i,i<11→∀a∈x.comp p i,a∉S):IX B w' p x q:=by
 have s0:p∉S∧x.mi∉S∧x.mh∉S:=⟨hs 0 (by decide) _ (by simp[XP.comp]),hs 0 (by decide) _ (by simp[XP.comp]),hs 0 (by decide) _ (by simp[XP.comp])⟩
 have s2:x.dp∉S∧x.dm∉S∧x.ds∉S:=⟨hs 2 (by decide) _ (by simp[XP.comp]),hs 2 (by decide) _ (by simp[XP.comp]),hs 2 (by decide) _ (by simp[XP.comp])⟩
 exact⟨(f.block p (Array.getElem?_eq_some_iff.1 h.hd).1 s0.1).trans h.hd,h.im.fr f s0.2.1,h.ni,h.hm.fr f s0.2.2,h.nh,h.ne,fun n hn=>(h.ln n hn).fr f (hs (n+3) (by omega)),h.rw,
  h.du.keep f (hs 1 (by decide)),h.de.fr f s2.1 s2.2.1 s2.2.2,⟨h.sp.ap,fun i hi a ha=>⟨(h.sp.lo i hi a ha).1,Nat.lt_of_lt_of_le (h.sp.lo i hi a ha).2 f.size⟩⟩⟩
theorem IX.ext (h:IX B w p x q) (k:Ext w w'):IX B w' p x q:=h.fr (S:=[]) (Ext.fr k) (by simp)
theorem IX.off (h:IX B w p x q) {i j:Nat} (hi:i<11) (hj:j<11) (hij:i≠j):∀a∈x.comp p i,a∉x.comp p j:=h.sp.ap i j hi hj hij
def updN {α:Type} (f:Nat→α) (n:Nat) (v:α):Nat→α:=fun k=>if k=n then v else f k
theorem IX.lane (h:IX B w p x q) (hB:B≤w.heap.size) {n:Nat} (hn:n<8) {l':List (UInt64×Nat)} {r:List UInt64} (hl:Lane w' (x.lp n).1 (x.lp n).2.1 l') (hr:ids l'=r)
 (f:Fr (Bl (x.lp n).1 (x.lp n).2.1 (x.lp n).2.2) w w') (hq:∀z∈l',z∈(x.lp n).2.2∨w.heap.size≤z.2):
 IX B w' p {x with lp:=updN x.lp n ((x.lp n).1,(x.lp n).2.1,l')} {q with rows:=updN q.rows n r}:=by
 have hs:∀i,i<11→i≠n+3→∀a∈x.comp p i,a∉x.comp p (n+3):=fun i hi hne=>h.off hi (by omega) hne
 have s0:=hs 0 (by decide) (by omega)
 have s2:=hs 2 (by decide) (by omega)
 have e0:∀k,((updN x.lp n ((x.lp n).1,(x.lp n).2.1,l')) k).1=(x.lp k).1:=fun k=>by unfold updN;split<;>simp_all
 refine⟨?_,h.im.fr f (s0 _ (by simp[XP.comp])),h.ni,h.hm.fr f (s0 _ (by simp[XP.comp])),h.nh,h.ne,fun k hk=> ?_,fun k hk=> ?_,h.du.keep f (hs 1 (by decide) (by omega)),
  h.de.fr f (s2 _ (by simp[XP.comp])) (s2 _ (by simp[XP.comp])) (s2 _ (by simp[XP.comp])),?_⟩
 · have:=(f.block p (Array.getElem?_eq_some_iff.1 h.hd).1 (s0 _ (by simp[XP.comp]))).trans h.hd
   rw[this]
   unfold idxO idxC
   dsimp only
   rw[e0 0,e0 1,e0 2,e0 3,e0 4,e0 5,e0 6,e0 7]
 · by_cases e:k=n
   · subst e
     simp only[updN,if_true]
     exact hl
   · simp only[updN,if_neg e]
     exact(h.ln k hk).fr f (hs (k+3) (by omega) (by omega))
 · by_cases e:k=n
   · subst e
     simp only[updN,if_true]
     exact hr
   · simp only[updN,if_neg e]
     exact h.rw k hk
 · refine h.sp.turn (n+3) f.size hB (fun j hj hne=> ?_) fun a ha=> ?_
   · match j,hne with
     |0,_=>rfl
     |1,_=>rfl
     |2,_=>rfl
     |j+3,hne=>
      have:j≠n:=by omega
      simp only[XP.comp,updN,if_neg this]
   · have hlt:=hl.lt a (by simpa[XP.comp,updN] using ha)
     refine⟨?_,hlt⟩
     simp only[XP.comp,updN,if_true,List.mem_cons,List.mem_map] at ha⊢
     rcases ha with rfl|rfl|⟨z,hz,rfl⟩
     · exact .inl (.inl rfl)
     · exact .inl (.inr (.inl rfl))
     · rcases hq z hz with h1|h1
       · exact .inl (.inr (.inr ⟨z,h1,rfl⟩))
       · exact .inr h1
theorem IX.due (h:IX B w p x q) (hB:B≤w.heap.size) {A:UInt64→Option Int} {row':List UInt64} {v':Value} (hl:HB B w' x.hp x.mt x.mp A row' v') (t:Turn w w' x.hp x.mt x.mp x.hv v'):
 IX B w' p {x with row:=row',hv:=v'} {q with wat:=A}:=by
 have f:=t.1
 have hs:∀i,i<11→i≠1→∀a∈x.comp p i,a∉x.comp p 1:=fun i hi hne=>h.off hi (by decide) hne
 have s0:=hs 0 (by decide) (by omega)
 have s2:=hs 2 (by decide) (by omega)
 refine⟨(f.block p (Array.getElem?_eq_some_iff.1 h.hd).1 (s0 _ (by simp[XP.comp]))).trans h.hd,h.im.fr f (s0 _ (by simp[XP.comp])),h.ni,h.hm.fr f (s0 _ (by simp[XP.comp])),h.nh,h.ne,fun k hk=>(h.ln k hk).fr f (hs (k+3) (by omega) (by omega)),h.rw,hl,
  h.de.fr f (s2 _ (by simp[XP.comp])) (s2 _ (by simp[XP.comp])) (s2 _ (by simp[XP.comp])),?_⟩
 refine h.sp.turn 1 f.size hB (fun j hj hne=> ?_) fun a ha=>⟨t.2 a ha,hl.lt a ha⟩
 match j,hne with
 |0,_=>rfl
 |2,_=>rfl
 |j+3,_=>rfl
theorem IX.dead (h:IX B w p x q) (hB:B≤w.heap.size) {d:PD} (hl:DD w' x.dp x.dm x.ds d) (f:Fr [x.dp,x.dm,x.ds] w w'):IX B w' p x {q with dd:=d}:=by
 have hs:∀i,i<11→i≠2→∀a∈x.comp p i,a∉x.comp p 2:=fun i hi hne=>h.off hi (by decide) hne
 have s0:=hs 0 (by decide) (by omega)
 exact⟨(f.block p (Array.getElem?_eq_some_iff.1 h.hd).1 (s0 _ (by simp[XP.comp]))).trans h.hd,h.im.fr f (s0 _ (by simp[XP.comp])),h.ni,h.hm.fr f (s0 _ (by simp[XP.comp])),h.nh,h.ne,fun k hk=>(h.ln k hk).fr f (hs (k+3) (by omega) (by omega)),h.rw,h.du.keep f (hs 1 (by decide) (by omega)),hl,
  ⟨h.sp.ap,fun i hi a ha=>⟨(h.sp.lo i hi a ha).1,Nat.lt_of_lt_of_le (h.sp.lo i hi a ha).2 f.size⟩⟩⟩
theorem IX.items (h:IX B w p x q) {L:List (UInt64×It)} (hl:PMI w' x.mi L) (hn:(L.map Prod.fst).Nodup) (f:Fr [x.mi] w w'):IX B w' p x {q with its:=L}:=by
 have h1:x.mi∈x.comp p 0:=by simp[XP.comp]
 have hs:∀i,i<11→i≠0→∀a∈x.comp p i,a∉[x.mi]:=fun i hi hne a ha hm=>h.off (by decide) hi (Ne.symm hne) _ h1 (by rw[List.mem_singleton] at hm;rw[←hm];exact ha)
 have s2:=hs 2 (by decide) (by omega)
 have hp:p∉[x.mi]:=by
  rw[List.mem_singleton]
  rintro rfl
  obtain⟨es,ck,hb⟩:=h.im.block
  rw[h.hd] at hb;cases hb
 exact⟨(f.block p (Array.getElem?_eq_some_iff.1 h.hd).1 hp).trans h.hd,hl,hn,h.hm.fr f (by rw[List.mem_singleton];exact Ne.symm h.ne),h.nh,h.ne,fun k hk=>(h.ln k hk).fr f (hs (k+3) (by omega) (by omega)),h.rw,h.du.keep f (hs 1 (by decide) (by omega)),
  h.de.fr f (s2 _ (by simp[XP.comp])) (s2 _ (by simp[XP.comp])) (s2 _ (by simp[XP.comp])),
  ⟨h.sp.ap,fun i hi a ha=>⟨(h.sp.lo i hi a ha).1,Nat.lt_of_lt_of_le (h.sp.lo i hi a ha).2 f.size⟩⟩⟩
theorem IX.held (h:IX B w p x q) {L:List (UInt64×UInt64)} (hl:PMU w' x.mh L) (hn:(L.map Prod.fst).Nodup) (f:Fr [x.mh] w w'):IX B w' p x {q with hld:=L}:=by
 have h1:x.mh∈x.comp p 0:=by simp[XP.comp]
 have hs:∀i,i<11→i≠0→∀a∈x.comp p i,a∉[x.mh]:=fun i hi hne a ha hm=>h.off (by decide) hi (Ne.symm hne) _ h1 (by rw[List.mem_singleton] at hm;rw[←hm];exact ha)
 have s2:=hs 2 (by decide) (by omega)
 have hp:p∉[x.mh]:=by
  rw[List.mem_singleton]
  rintro rfl
  obtain⟨es,ck,hb⟩:=h.hm.block
  rw[h.hd] at hb;cases hb
 exact⟨(f.block p (Array.getElem?_eq_some_iff.1 h.hd).1 hp).trans h.hd,h.im.fr f (by rw[List.mem_singleton];exact h.ne),h.ni,hl,hn,h.ne,fun k hk=>(h.ln k hk).fr f (hs (k+3) (by omega) (by omega)),h.rw,h.du.keep f (hs 1 (by decide) (by omega)),
  h.de.fr f (s2 _ (by simp[XP.comp])) (s2 _ (by simp[XP.comp])) (s2 _ (by simp[XP.comp])),
  ⟨h.sp.ap,fun i hi a ha=>⟨(h.sp.lo i hi a ha).1,Nat.lt_of_lt_of_le (h.sp.lo i hi a ha).2 f.size⟩⟩⟩
theorem IX.own (h:IX B w p x q) (q':QR) (i:Nat) (u:Value) (hc:(idxC x q).setIfInBounds i u=idxC x q') (e1:q'.its=q.its) (e2:q'.rows=q.rows) (e3:q'.wat=q.wat) (e4:q'.hld=q.hld) (e5:q'.dd=q.dd):
 IX B (w.setCell ⟨p,i,none⟩ u) p x q':=by
 have f:Fr [p] w (w.setCell ⟨p,i,none⟩ u):=fr_setCell _ _ _ (by simp)
 have h1:p∈x.comp p 0:=by simp[XP.comp]
 have hs:∀i,i<11→i≠0→∀a∈x.comp p i,a∉[p]:=fun i hi hne a ha hm=>h.off (by decide) hi (Ne.symm hne) _ h1 (by rw[List.mem_singleton] at hm;cases hm;exact ha)
 have s2:=hs 2 (by decide) (by omega)
 have hi:x.mi∉[p]:=by
  rw[List.mem_singleton]
  intro e
  obtain⟨es,ck,hb⟩:=h.im.block
  rw[e,h.hd] at hb;cases hb
 have hh:x.mh∉[p]:=by
  rw[List.mem_singleton]
  intro e
  obtain⟨es,ck,hb⟩:=h.hm.block
  rw[e,h.hd] at hb;cases hb
 have hb:=block_set h.hd i u
 rw[hc] at hb
 refine⟨hb,by rw[e1];exact h.im.fr f hi,by rw[e1];exact h.ni,by rw[e4];exact h.hm.fr f hh,by rw[e4];exact h.nh,h.ne,fun k hk=>(h.ln k hk).fr f (hs (k+3) (by omega) (by omega)),by rw[e2];exact h.rw,by rw[e3];exact h.du.keep f (hs 1 (by decide) (by omega)),
  by rw[e5];exact h.de.fr f (s2 _ (by simp[XP.comp])) (s2 _ (by simp[XP.comp])) (s2 _ (by simp[XP.comp])),
  ⟨h.sp.ap,fun i hi a ha=>⟨(h.sp.lo i hi a ha).1,Nat.lt_of_lt_of_le (h.sp.lo i hi a ha).2 f.size⟩⟩⟩
def XStp (B:Nat) (w:World) (p:Nat) (x:XP) (q:QR) (w':World):Prop:=∃x',IX B w' p x' q∧Fr (x.blk p) w w'∧∀a∈x'.blk p,a∈x.blk p∨w.heap.size≤a
theorem XStp.same (h:IX B w p x q) (k:Ext w w'):XStp B w p x q w':=⟨x,h.ext k,Ext.fr k,fun a ha=> .inl ha⟩
theorem IX.blk_lo (h:IX B w p x q):∀a∈x.blk p,B≤a∧a<w.heap.size:=fun a ha=>by
 obtain⟨i,hi,hm⟩:=XP.mem_blk.1 ha
 exact h.sp.lo i hi a hm
theorem XStp.part {x':XP} {q':QR} {i:Nat} (hi:i<11) (k:IX B w' p x' q') (f:Fr (x.comp p i) w w') (ho:∀j,j<11→j≠i→x'.comp p j=x.comp p j) (hn:∀a∈x'.comp p i,a∈x.comp p i∨w.heap.size≤a):XStp B w p x q' w':=by
 refine⟨x',k,f.mono fun a ha=>XP.mem_blk.2 ⟨i,hi,ha⟩,fun a ha=> ?_⟩
 obtain⟨j,hj,hm⟩:=XP.mem_blk.1 ha
 by_cases e:j=i
 · subst e
   exact(hn a hm).imp (fun h=>XP.mem_blk.2 ⟨j,hj,h⟩) id
 · rw[ho j hj e] at hm
   exact .inl (XP.mem_blk.2 ⟨j,hj,hm⟩)
theorem XStp.lane (h:IX B w p x q) (hB:B≤w.heap.size) {n:Nat} (hn:n<8) {l':List (UInt64×Nat)} {r:List UInt64} (hl:Lane w' (x.lp n).1 (x.lp n).2.1 l') (hr:ids l'=r)
 (f:Fr (Bl (x.lp n).1 (x.lp n).2.1 (x.lp n).2.2) w w') (hq:∀z∈l',z∈(x.lp n).2.2∨w.heap.size≤z.2):XStp B w p x {q with rows:=updN q.rows n r} w':=by
 refine XStp.part (i:=n+3) (by omega) (h.lane hB hn hl hr f hq) f (fun j hj hne=> ?_) fun a ha=> ?_
 · match j,hne with
   |0,_=>rfl
   |1,_=>rfl
   |2,_=>rfl
   |j+3,hne=>
    have:j≠n:=by omega
    simp only[XP.comp,updN,if_neg this]
 · simp only[XP.comp,updN,if_true,List.mem_cons,List.mem_map] at ha⊢
   rcases ha with rfl|rfl|⟨z,hz,rfl⟩
   · exact .inl (.inl rfl)
   · exact .inl (.inr (.inl rfl))
   · rcases hq z hz with h1|h1
     · exact .inl (.inr (.inr ⟨z,h1,rfl⟩))
     · exact .inr h1
theorem XStp.due (h:IX B w p x q) (hB:B≤w.heap.size) {A:UInt64→Option Int} {row':List UInt64} {v':Value} (hl:HB B w' x.hp x.mt x.mp A row' v') (t:Turn w w' x.hp x.mt x.mp x.hv v'):XStp B w p x {q with wat:=A} w':=
 XStp.part (i:=1) (by decide) (h.due hB hl t) t.1 (fun j hj hne=>by
  match j,hne with
  |0,_=>rfl
  |2,_=>rfl
  |j+3,_=>rfl) t.2
theorem XStp.dead (h:IX B w p x q) (hB:B≤w.heap.size) {d:PD} (hl:DD w' x.dp x.dm x.ds d) (f:Fr [x.dp,x.dm,x.ds] w w'):XStp B w p x {q with dd:=d} w':=
 XStp.part (i:=2) (by decide) (h.dead hB hl f) f (fun _ _ _=>rfl) fun a ha=> .inl ha
theorem XStp.items (h:IX B w p x q) {L:List (UInt64×It)} (hl:PMI w' x.mi L) (hn:(L.map Prod.fst).Nodup) (f:Fr [x.mi] w w'):XStp B w p x {q with its:=L} w':=
 XStp.part (i:=0) (by decide) (h.items hl hn f) (f.mono (by intro a ha;rw[List.mem_singleton] at ha;rw[ha];simp[XP.comp])) (fun _ _ _=>rfl) fun a ha=> .inl ha
theorem XStp.held (h:IX B w p x q) {L:List (UInt64×UInt64)} (hl:PMU w' x.mh L) (hn:(L.map Prod.fst).Nodup) (f:Fr [x.mh] w w'):XStp B w p x {q with hld:=L} w':=
 XStp.part (i:=0) (by decide) (h.held hl hn f) (f.mono (by intro a ha;rw[List.mem_singleton] at ha;rw[ha];simp[XP.comp])) (fun _ _ _=>rfl) fun a ha=> .inl ha
theorem XStp.own (h:IX B w p x q) (q':QR) (i:Nat) (u:Value) (hc:(idxC x q).setIfInBounds i u=idxC x q') (e1:q'.its=q.its) (e2:q'.rows=q.rows) (e3:q'.wat=q.wat) (e4:q'.hld=q.hld) (e5:q'.dd=q.dd):XStp B w p x q' (w.setCell ⟨p,i,none⟩ u):=
 XStp.part (i:=0) (by decide) (h.own q' i u hc e1 e2 e3 e4 e5) ((fr_setCell (S:=[p]) _ _ _ (by simp)).mono (by intro a ha;rw[List.mem_singleton] at ha;rw[ha];simp[XP.comp])) (fun _ _ _=>rfl) fun a ha=> .inl ha
theorem XStp.then {x1:XP} {w1:World} {q2:QR} (f:Fr (x.blk p) w w1) (b:∀a∈x1.blk p,a∈x.blk p∨w.heap.size≤a) (h2:XStp B w1 p x1 q2 w'):XStp B w p x q2 w':=by
 obtain⟨x2,i2,f2,b2⟩:=h2
 refine⟨x2,i2,?_,fun a ha=> ?_⟩
 · refine((f.mono (T:=x.blk p++x1.blk p) (by intro a ha;simp[ha])).trans (f2.mono (by intro a ha;simp[ha]))).wider fun a ha=> ?_
   rcases List.mem_append.1 ha with e|e
   · exact .inl e
   · exact b a e
 · rcases b2 a ha with e|e
   · exact b a e
   · exact .inr (Nat.le_trans f.size e)
theorem XStp.keep (h:XStp B w p x q w') (hl:∀a∈x.blk p,B≤a) (hB:B≤w.heap.size):∃x',IX B w' p x' q∧Below B w w'∧∀b o,w.heap[b]? =some o→b∉x.blk p→w'.heap[b]? =some o∧b∉x'.blk p:=by
 obtain⟨x',i,f,n⟩:=h
 refine⟨x',i,f.below hl hB,fun b o hb hn=>⟨(f.block b (Array.getElem?_eq_some_iff.1 hb).1 hn).trans hb,fun hm=> ?_⟩⟩
 have hl:=(Array.getElem?_eq_some_iff.1 hb).1
 rcases n b hm with h1|h1
 · exact hn h1
 · omega
theorem IX.new_nin (h:IX B w p x q):w.heap.size∉x.blk p:=fun hm=>by have:=(h.blk_lo _ hm).2;omega
theorem IX.blo (h:IX B w p x q):∀a∈x.blk p,B≤a:=fun a ha=>(h.blk_lo a ha).1
theorem IX.cells (h:IX B w p x q):∀i v,(idxC x q)[i]? =some v→w.cell? ⟨p,i,none⟩=some v:=fun i v hv=>by
 rw[cell_of_row _ _ _ _ _ _ h.hd];exact hv
theorem IX.froz (h:IX B w p x q) (i:Nat):w.frozen? ⟨p,i,none⟩=false:=by
 have:=h.hd
 simp[World.frozen?,this]
theorem IX.lcell (h:IX B w p x q) {n:Nat} (hn:n<8):w.cell? ⟨p,8+n,none⟩=some (pv (x.lp n).1):=by
 refine h.cells _ _ ?_
 match n,hn with
 |0,_=>rfl
 |1,_=>rfl
 |2,_=>rfl
 |3,_=>rfl
 |4,_=>rfl
 |5,_=>rfl
 |6,_=>rfl
 |7,_=>rfl
theorem IX.nowat (h:IX B w p x q) {i:UInt64} (hi:i∉x.row):q.wat i=none:=by
 have:=h.du.has i
 rw[decide_eq_false hi] at this
 cases hq:q.wat i with
 |none=>rfl
 |some v=>rw[hq] at this;simp at this
theorem IX.iswat (h:IX B w p x q) {i:UInt64} (hi:i∈x.row):(q.wat i).isSome=true:=by rw[h.du.has,decide_eq_true hi]
end
theorem ids_but (l:List (UInt64×Nat)) (i:UInt64):ids (l.filter fun q=>q.1 !=i)=(ids l).filter fun y=>y !=i:=by
 unfold ids
 rw[List.filter_map]
 rfl
end Go.Proofs.YtcfgafododiioaaGreatDoor
namespace Go.Proofs.YtcfgafododiioaaGreatDoor
open Go Go.RowKit Go.Tum Go.ChangeMaps
def It.l (z:It):L:=⟨z.st,z.ct,(z.due.toNat:Int),(z.tok.toNat:Int)⟩
def It.at (z:It) (l:L) (t:UInt64):It:={z with st:=l.s,ct:=l.c,due:=UInt64.ofNat l.d.toNat,tok:=UInt64.ofNat l.t.toNat,turn:=t}
def leaveQ (q:QR) (z:It):QR:=
 if z.st=1 then{q with rows:=updN q.rows z.lane.toNat ((q.rows z.lane.toNat).filter fun y=>y !=z.id)}
 else if z.st=2 then{q with wat:=delF q.wat z.id}
 else if z.st=3 then{q with wat:=delF q.wat z.id,hld:=noK q.hld z.tok}
 else if z.st=4 then{q with dd:=(dropD q.dd z.id).2}
 else q
def putR (r:List UInt64) (x:UInt64):List UInt64:=if x∈r then r else r++[x]
def putW (f:UInt64→Option Int) (x:UInt64) (t:UInt64):UInt64→Option Int:=if(f x).isSome then f else setF f x (t.toNat:Int)
def putI (q:QR) (z:It):QR:={q with its:=(z.id,z)::noK q.its z.id}
def enterQ (q:QR) (z:It):QR:=
 if z.st=1 then{putI q z with rows:=updN q.rows z.lane.toNat (putR (q.rows z.lane.toNat) z.id)}
 else if z.st=2 then{putI q z with wat:=putW q.wat z.id z.due}
 else if z.st=3 then{putI q z with wat:=putW q.wat z.id z.due,hld:=(z.tok,z.id)::noK q.hld z.tok}
 else if z.st=4 then{putI q z with dd:=(addD q.dd z.id).2}
 else if z.st=5 then{q with its:=noK ((z.id,z)::noK q.its z.id) z.id}
 else putI q z
def becI (q:QR) (z:It) (l:L):It:=z.at l (if l.s=1 then q.turns+1 else 0)
def becQ (q:QR) (z:It) (l:L):QR:=
 let q1:=leaveQ q z
 enterQ {q1 with turns:=if l.s=1 then q1.turns+1 else q1.turns} (becI q z l)
theorem leaveQ1 (q:QR) (z:It) (h:z.st=1):leaveQ q z={q with rows:=updN q.rows z.lane.toNat ((q.rows z.lane.toNat).filter fun y=>y !=z.id)}:=by unfold leaveQ;rw[if_pos h]
theorem leaveQ2 (q:QR) (z:It) (h:z.st=2):leaveQ q z={q with wat:=delF q.wat z.id}:=by unfold leaveQ;rw[if_neg (by omega),if_pos h]
theorem leaveQ3 (q:QR) (z:It) (h:z.st=3):leaveQ q z={q with wat:=delF q.wat z.id,hld:=noK q.hld z.tok}:=by unfold leaveQ;rw[if_neg (by omega),if_neg (by omega),if_pos h]
theorem leaveQ4 (q:QR) (z:It) (h:z.st=4):leaveQ q z={q with dd:=(dropD q.dd z.id).2}:=by unfold leaveQ;rw[if_neg (by omega),if_neg (by omega),if_neg (by omega),if_pos h]
theorem enterQ1 (q:QR) (z:It) (h:z.st=1):enterQ q z={putI q z with rows:=updN q.rows z.lane.toNat (putR (q.rows z.lane.toNat) z.id)}:=by unfold enterQ;rw[if_pos h]
theorem enterQ2 (q:QR) (z:It) (h:z.st=2):enterQ q z={putI q z with wat:=putW q.wat z.id z.due}:=by unfold enterQ;rw[if_neg (by omega),if_pos h]
theorem enterQ3 (q:QR) (z:It) (h:z.st=3):enterQ q z={putI q z with wat:=putW q.wat z.id z.due,hld:=(z.tok,z.id)::noK q.hld z.tok}:=by unfold enterQ;rw[if_neg (by omega),if_neg (by omega),if_pos h]
theorem enterQ4 (q:QR) (z:It) (h:z.st=4):enterQ q z={putI q z with dd:=(addD q.dd z.id).2}:=by unfold enterQ;rw[if_neg (by omega),if_neg (by omega),if_neg (by omega),if_pos h]
theorem enterQ5 (q:QR) (z:It) (h:z.st=5):enterQ q z={q with its:=noK ((z.id,z)::noK q.its z.id) z.id}:=by unfold enterQ;rw[if_neg (by omega),if_neg (by omega),if_neg (by omega),if_neg (by omega),if_pos h]
theorem leaveQ_turns (q:QR) (z:It):(leaveQ q z).turns=q.turns:=by
 unfold leaveQ
 repeat' split
 all_goals rfl
theorem leaveQ_its (q:QR) (z:It):(leaveQ q z).its=q.its:=by
 unfold leaveQ
 repeat' split
 all_goals rfl
end Go.Proofs.YtcfgafododiioaaGreatDoor
set_option maxRecDepth 100000
namespace Go.Proofs.YtcfgafododiioaaGreatDoor
open Go Go.RowKit Go.Tum Go.ChangeMaps
section
variable {B : Nat} {w w1 w' : World} {p : Nat} {x : XP} {q q' : QR}
theorem XStp.pre (k:Ext w w1) (h:XStp B w1 p x q' w'):XStp B w p x q' w':=by
 obtain⟨x',i,f,n⟩:=h
 exact⟨x',i,(Ext.fr k).trans f,fun a ha=>(n a ha).imp id fun e=>Nat.le_trans k.size e⟩
theorem XStp.congr (h:XStp B w p x q w') (e:q=q'):XStp B w p x q' w':=e▸h
theorem lanDrop_at (h:IX B w p x q) (hB:B≤w.heap.size) {n:Nat} (hn:n<8) (i:UInt64):
 Calls Tryz.prog 169 #[pv (x.lp n).1,vU i] w fun e w'=>e= .returned (.bool (decide (i∈q.rows n)))∧XStp B w p x {q with rows:=updN q.rows n ((q.rows n).filter fun y=>y !=i)} w':=by
 refine Calls.mono (drop_any w _ _ _ i (h.ln n hn)) ?_
 rintro e w' ⟨rfl,l',hl,rfl,f⟩
 rw[h.rw n hn]
 exact⟨rfl,XStp.lane h hB hn hl (by rw[ids_but,h.rw n hn]) f fun z hz=> .inl (List.mem_filter.1 hz).1⟩
theorem lanPut_at (h:IX B w p x q) (hB:B≤w.heap.size) {n:Nat} (hn:n<8) (i:UInt64) (hl:(q.rows n).length≤1000000):
 Calls Tryz.prog 166 #[pv (x.lp n).1,vU i] w fun e w'=>e= .returned (.bool (decide (i∉q.rows n)))∧XStp B w p x {q with rows:=updN q.rows n (putR (q.rows n) i)} w':=by
 have hlen:(x.lp n).2.2.length=(q.rows n).length:=by rw[←h.rw n hn];simp
 refine Calls.mono (put_any w _ _ _ i (h.ln n hn) (by omega)) ?_
 rintro e w' ⟨rfl,l',hl,he,f,hb⟩
 rw[h.rw n hn] at he⊢
 exact⟨rfl,XStp.lane h hB hn hl he f hb⟩
theorem delF_none {f:UInt64→Option Int} {i:UInt64} (h:f i=none):delF f i=f:=by
 funext j
 unfold delF
 split
 · rename_i e;rw[e,h]
 · rfl
theorem dueDrop_at (h:IX B w p x q) (hB:B≤w.heap.size) (i:UInt64) (hl:x.row.length≤10000):
 Calls Tryz.prog 133 #[pv x.hp,vU i] w fun e w'=>e= .returned (.bool (q.wat i).isSome)∧XStp B w p x {q with wat:=delF q.wat i} w':=by
 refine Calls.mono (hdrop_any B w _ _ _ _ _ _ i h.du hl hB) ?_
 rintro e w' ⟨h1,h2⟩
 by_cases hi:i∈x.row
 · obtain⟨rfl,row',v',-,hb,-,ht⟩:=h2 hi
   rw[h.iswat hi]
   exact⟨rfl,XStp.due h hB hb ht⟩
 · obtain⟨rfl,rfl⟩:=h1 hi
   rw[h.nowat hi]
   exact⟨rfl,(XStp.same h (Ext.refl _)).congr (by rw[delF_none (h.nowat hi)])⟩
theorem duePut_at (h:IX B w p x q) (hB:B≤w.heap.size) (i t:UInt64) (hl:x.row.length≤10000):
 Calls Tryz.prog 167 #[pv x.hp,vU i,vU t] w fun e w'=>e= .returned (.bool (!(q.wat i).isSome))∧XStp B w p x {q with wat:=putW q.wat i t} w':=by
 refine Calls.mono (hput_any B w _ _ _ _ _ _ i t h.du hl hB) ?_
 rintro e w' ⟨h1,h2⟩
 by_cases hi:i∈x.row
 · obtain⟨rfl,rfl⟩:=h1 hi
   rw[h.iswat hi]
   exact⟨rfl,(XStp.same h (Ext.refl _)).congr (by unfold putW;rw[if_pos (h.iswat hi)])⟩
 · obtain⟨rfl,row',v',-,hb,-,ht⟩:=h2 hi
   rw[h.nowat hi]
   refine⟨rfl,(XStp.due h hB hb ht).congr ?_⟩
   unfold putW
   rw[h.nowat hi]
   rfl
theorem dedDrop_at (h:IX B w p x q) (hB:B≤w.heap.size) (i:UInt64):
 Calls Tryz.prog 170 #[pv x.dp,vU i] w fun e w'=>e= .returned (.bool (dropD q.dd i).1)∧XStp B w p x {q with dd:=(dropD q.dd i).2} w':=by
 refine Calls.mono (ddrop_any i h.de) ?_
 rintro e w' ⟨rfl,hd,f⟩
 exact⟨rfl,XStp.dead h hB hd f⟩
theorem dedAdd_at (h:IX B w p x q) (hB:B≤w.heap.size) (i:UInt64) (hl:q.dd.rows.length≤99999):
 Calls Tryz.prog 168 #[pv x.dp,vU i] w fun e w'=>e= .returned (.bool (addD q.dd i).1)∧XStp B w p x {q with dd:=(addD q.dd i).2} w':=by
 refine Calls.mono (dadd_any i h.de hl) ?_
 rintro e w' ⟨rfl,hd,f⟩
 exact⟨rfl,XStp.dead h hB hd f⟩
theorem hldDel_at (h:IX B w p x q) (t:UInt64) (ty:TypeId):
 ∃w',(Builtin.delete_ #[133,36] ty #[.map (some x.mh),vU t]).run Tryz.prog w= .ok (.tuple #[]) w'∧XStp B w p x {q with hld:=noK q.hld t} w':=by
 obtain⟨w2,hrun,hl,ht⟩:=h.hm.del Tryz.underlying133 h.nh t ty
 exact⟨w2,hrun,XStp.held h hl ((List.filter_sublist.map Prod.fst).nodup h.nh) (fr_turned ht (by simp))⟩
theorem cons_nodup {β:Type} {l:List (UInt64×β)} {x:UInt64} {b:β} (h:(l.map Prod.fst).Nodup):(((x,b)::noK l x).map Prod.fst).Nodup:=by
 rw[List.map_cons,List.nodup_cons]
 refine⟨fun hm=> ?_,(List.filter_sublist.map Prod.fst).nodup h⟩
 obtain⟨y,hy,e⟩:=List.mem_map.1 hm
 unfold noK at hy
 have:=(List.mem_filter.1 hy).2
 simp at this
 exact this e
theorem hldPut_at (h:IX B w p x q) (t i:UInt64) (hl:q.hld.length≤1048576):
 ∃w',(Instr.mapUpdate 133 (.map (some x.mh)) (vU t) (vU i)).run Tryz.prog w= .ok () w'∧XStp B w p x {q with hld:=(t,i)::noK q.hld t} w':=by
 obtain⟨w2,hrun,hl,ht⟩:=h.hm.store Tryz.underlying133 hl h.nh t i
 exact⟨w2,hrun,XStp.held h hl (cons_nodup h.nh) (fr_turned ht (by simp))⟩
theorem itsDel_at (h:IX B w p x q) (i:UInt64) (ty:TypeId):
 ∃w',(Builtin.delete_ #[129,36] ty #[.map (some x.mi),vU i]).run Tryz.prog w= .ok (.tuple #[]) w'∧XStp B w p x {q with its:=noK q.its i} w':=by
 obtain⟨w2,hrun,hl,ht⟩:=h.im.del Tryz.underlying129 h.ni i ty
 exact⟨w2,hrun,XStp.items h hl ((List.filter_sublist.map Prod.fst).nodup h.ni) (fr_turned ht (by simp))⟩
theorem itsPut_at (h:IX B w p x q) (z:It) (hl:q.its.length≤1048576):
 ∃w',(Instr.mapUpdate 129 (.map (some x.mi)) (vU z.id) (itV z)).run Tryz.prog w= .ok () w'∧XStp B w p x {q with its:=(z.id,z)::noK q.its z.id} w':=by
 obtain⟨w2,hrun,hl,ht⟩:=h.im.store Tryz.underlying129 hl h.ni z.id z
 exact⟨w2,hrun,XStp.items h hl (cons_nodup h.ni) (fr_turned ht (by simp))⟩
end
end Go.Proofs.YtcfgafododiioaaGreatDoor
