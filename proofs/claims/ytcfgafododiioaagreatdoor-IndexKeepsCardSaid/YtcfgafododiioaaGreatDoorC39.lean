/- Texts of a claim, side by side. -/
import Derived.Test.YtcfgafododiioaaGreatDoorC38
import Derived.Test.YtcfgafododiioaaGreatDoorC30
set_option linter.unusedSimpArgs false
set_option linter.unusedVariables false
set_option maxRecDepth 100000
namespace Go.Proofs.YtcfgafododiioaaGreatDoor
open Go Go.RowKit Go.Tum Go.ChangeMaps Go.Sort
open Go.ParB (upd Lof)
open Go.ParE (putS slotsR slots Closed)
abbrev aiC (a:Ai):Array Value:= #[.int .i64 a.dn,.int .i64 a.lane,.int .i64 a.many,vU a.id,vU a.n,vN a.name,vU a.sg,vU a.ps,.int .i64 a.size]
abbrev aiV (a:Ai):Value:= .agg (aiC a)
abbrev aiO (a:Ai):Obj:= .cells (aiC a) 40 (0,0)
abbrev anC (a:An) (v:Value):Array Value:= #[.int .i64 a.e,vU a.id,vU a.it.id,.int .i64 a.it.lane,.int .i64 a.it.st,.int .i64 a.it.ct,vU a.it.due,vU a.it.tok,vU a.it.turn,vU a.it.seg,vU a.it.pos,.int .i64 a.it.size,.int .i64 a.many,.bool a.is,v]
abbrev anV (a:An) (v:Value):Value:= .agg (anC a v)
abbrev anO (a:An) (v:Value):Obj:= .cells (anC a v) 49 (0,0)
theorem blk15 {w:World} {b:Nat} {v0 v1 v2 v3 v4 v5 v6 v7 v8 v9 v10 v11 v12 v13 v14:Value} {ty:TypeId} (h:w.heap[b]? =some (.cells #[v0,v1,v2,v3,v4,v5,v6,v7,v8,v9,v10,v11,v12,v13,v14] ty (0,0))):
 w.cell? ⟨b,0,none⟩=some v0∧w.cell? ⟨b,1,none⟩=some v1∧w.cell? ⟨b,2,none⟩=some v2∧w.cell? ⟨b,3,none⟩=some v3∧w.cell? ⟨b,4,none⟩=some v4∧w.cell? ⟨b,5,none⟩=some v5∧w.cell? ⟨b,6,none⟩=some v6∧w.cell? ⟨b,7,none⟩=some v7∧w.cell? ⟨b,8,none⟩=some v8∧w.cell? ⟨b,9,none⟩=some v9∧w.cell? ⟨b,10,none⟩=some v10∧w.cell? ⟨b,11,none⟩=some v11∧w.cell? ⟨b,12,none⟩=some v12∧w.cell? ⟨b,13,none⟩=some v13∧w.cell? ⟨b,14,none⟩=some v14∧∀i,w.frozen? ⟨b,i,none⟩=false:=by
 refine⟨?_,?_,?_,?_,?_,?_,?_,?_,?_,?_,?_,?_,?_,?_,?_,?_⟩
 all_goals first|(rw[cell_of_row _ _ _ _ _ _ h];rfl)|exact fun i=>by simp[World.frozen?,h]
theorem blk9 {w:World} {b:Nat} {v0 v1 v2 v3 v4 v5 v6 v7 v8:Value} {ty:TypeId} (h:w.heap[b]? =some (.cells #[v0,v1,v2,v3,v4,v5,v6,v7,v8] ty (0,0))):
 w.cell? ⟨b,0,none⟩=some v0∧w.cell? ⟨b,1,none⟩=some v1∧w.cell? ⟨b,2,none⟩=some v2∧w.cell? ⟨b,3,none⟩=some v3∧w.cell? ⟨b,4,none⟩=some v4∧w.cell? ⟨b,5,none⟩=some v5∧w.cell? ⟨b,6,none⟩=some v6∧w.cell? ⟨b,7,none⟩=some v7∧w.cell? ⟨b,8,none⟩=some v8∧∀i,w.frozen? ⟨b,i,none⟩=false:=by
 refine⟨?_,?_,?_,?_,?_,?_,?_,?_,?_,?_⟩
 all_goals first|(rw[cell_of_row _ _ _ _ _ _ h];rfl)|exact fun i=>by simp[World.frozen?,h]
theorem do_results (tmps:Array Value) (w:World) (b:Nat) (a:An) (v:Value) (h4:tmps.getD 4 undef= .pointer (some ⟨b,0,none⟩)) (m:w.heap[b]? =some (anO a v)):
 (results Tryz.f19 tmps).run Tryz.prog w= .ok (anV a v) w:=by
 have h4':tmps[4]?.getD undef= .pointer (some ⟨b,0,none⟩):=by simpa using h4
 obtain⟨m0,m1,m2,m3,m4,m5,m6,m7,m8,m9,m10,m11,m12,m13,m14,-⟩:=blk15 m
 simp[results,Tryz.results19,go_sem,h4',m0,m1,m2,m3,m4,m5,m6,m7,m8,m9,m10,m11,m12,m13,m14]
def DoI (B:Nat) (w:World) (p:Nat) (x:XP) (r:An×QR) (e:Ending) (w':World):Prop:=(∃ao cap,e= .returned (anV r.1 (.slice ao r.1.ids.length cap))∧w'.ownsRow w.heap.size 36 1 (.slice ao r.1.ids.length cap) r.1.ids.length (r.1.ids.map vU))∧XStp B w p x r.2 w'
theorem do_fin {B:Nat} {w Wc w5 w':World} {p:Nat} {x:XP} {q q5:QR} {bs:List Nat} (h:IX B w p x q) (e4:Ext w Wc) (hs:XStp B Wc p x q5 w5) (f:Fr bs w5 w') (hb:∀b∈bs,w.heap.size≤b∧b<Wc.heap.size):XStp B w p x q5 w':=by
 obtain⟨x5,i5,f5,n5⟩:=hs
 refine⟨x5,i5.fr f fun i hi a ha hm=> ?_,?_,fun a ha=> ?_⟩
 · have h1:=hb a hm
   rcases n5 a (XP.mem_blk.2 ⟨i,hi,ha⟩) with k|k
   · have:=(h.blk_lo a k).2;omega
   · omega
 · have f1:Fr (x.blk p++bs) w w':=((Ext.fr e4).trans (f5.mono (by intro a ha;simp[ha]))).trans (f.mono (by intro a ha;simp[ha]))
   refine f1.wider fun a ha=> ?_
   rcases List.mem_append.1 ha with k|k
   · exact .inl k
   · exact .inr (hb a k).1
 · rcases n5 a ha with k|k
   · exact .inl k
   · exact .inr (Nat.le_trans e4.size k)
abbrev zAn:Obj:= .cells #[.int .i64 0,.int .u64 0,.int .u64 0,.int .i64 0,.int .i64 0,.int .i64 0,.int .u64 0,.int .u64 0,.int .u64 0,.int .u64 0,.int .u64 0,.int .i64 0,.int .i64 0,.bool false,.slice none 0 0] 49 (0,0)
theorem do_head {B:Nat} {w w1 w2 w3:World} {p:Nat} {x:XP} {q:QR} {dn lane many:Int} {aid an:UInt64} {nm:Nm} {asg aps:UInt64} {asz:Int} (h:IX B w p x q) (hB:B≤w.heap.size) (ht:TB w)
 (hw1:w.alloc (.cells #[.int .i64 dn,.int .i64 lane,.int .i64 many,vU aid,vU an,vN nm,vU asg,vU aps,.int .i64 asz] 40 (0,0))=w1) (hw2:w1.alloc zAn=w2) (hw3:w2.alloc (.cells #[.int .u64 0,.int .i64 0,.int .i64 0,.int .i64 0,.int .u64 0,.int .u64 0,.int .u64 0,.int .u64 0,.int .u64 0,.int .i64 0] 79 (0,0))=w3):
 Hid (IX B (w3.alloc zAn) p x q)∧Hid (Ext w (w3.alloc zAn))∧Hid (B≤(w3.alloc zAn).heap.size)∧Hid (TB (w3.alloc zAn))∧Hid ((w3.alloc zAn).heap[w1.heap.size]? =some zAn)∧Hid ((w3.alloc zAn).heap[w2.heap.size]? =some (.cells #[.int .u64 0,.int .i64 0,.int .i64 0,.int .i64 0,.int .u64 0,.int .u64 0,.int .u64 0,.int .u64 0,.int .u64 0,.int .i64 0] 79 (0,0)))∧Hid ((w3.alloc zAn).heap[w3.heap.size]? =some zAn)∧
 Hid (w.heap.size≤w1.heap.size∧w1.heap.size<w2.heap.size∧w2.heap.size<w3.heap.size∧w3.heap.size<(w3.alloc zAn).heap.size)∧(∀o,(w3.alloc o).cell? ⟨w.heap.size,0,none⟩=some (.int .i64 dn))∧(∀o,(w3.alloc o).cell? ⟨w.heap.size,1,none⟩=some (.int .i64 lane))∧(∀o,(w3.alloc o).cell? ⟨w.heap.size,2,none⟩=some (.int .i64 many))∧(∀o,(w3.alloc o).cell? ⟨w.heap.size,3,none⟩=some (vU aid))∧(∀o,(w3.alloc o).cell? ⟨w.heap.size,4,none⟩=some (vU an))∧(∀o,(w3.alloc o).cell? ⟨w.heap.size,5,none⟩=some (vN nm))∧(∀o,(w3.alloc o).cell? ⟨w.heap.size,6,none⟩=some (vU asg))∧(∀o,(w3.alloc o).cell? ⟨w.heap.size,7,none⟩=some (vU aps))∧(∀o,(w3.alloc o).cell? ⟨w.heap.size,8,none⟩=some (.int .i64 asz)):=by
 have e1:Ext w w1:=by rw[←hw1];exact Ext.alloc _ _
 have e2:Ext w1 w2:=by rw[←hw2];exact Ext.alloc _ _
 have e3:Ext w2 w3:=by rw[←hw3];exact Ext.alloc _ _
 have e4:Ext w3 (w3.alloc zAn):=Ext.alloc _ _
 have s1:w1.heap.size=w.heap.size+1:=by rw[←hw1];simp
 have s2:w2.heap.size=w1.heap.size+1:=by rw[←hw2];simp
 have s3:w3.heap.size=w2.heap.size+1:=by rw[←hw3];simp
 have s4:(w3.alloc zAn).heap.size=w3.heap.size+1:=by simp
 have b1:w3.heap[w.heap.size]? =some (.cells #[.int .i64 dn,.int .i64 lane,.int .i64 many,vU aid,vU an,vN nm,vU asg,vU aps,.int .i64 asz] 40 (0,0)):=(e2.trans e3).obj (by rw[←hw1];exact heap_alloc_new _ _)
 have b2:(w3.alloc zAn).heap[w1.heap.size]? =some zAn:=(e3.trans e4).obj (by rw[←hw2];exact heap_alloc_new _ _)
 have b3:(w3.alloc zAn).heap[w2.heap.size]? =some (.cells #[.int .u64 0,.int .i64 0,.int .i64 0,.int .i64 0,.int .u64 0,.int .u64 0,.int .u64 0,.int .u64 0,.int .u64 0,.int .i64 0] 79 (0,0)):=e4.obj (by rw[←hw3];exact heap_alloc_new _ _)
 have b4:(w3.alloc zAn).heap[w3.heap.size]? =some zAn:=heap_alloc_new _ _
 have hE:Ext w (w3.alloc zAn):=((e1.trans e2).trans e3).trans e4
 obtain⟨t0,t1,t2,t3,t4,t5,t6,t7,t8,-⟩:=blk9 b1
 replace t0:=fun o=>(Ext.alloc w3 o).cell t0
 replace t1:=fun o=>(Ext.alloc w3 o).cell t1
 replace t2:=fun o=>(Ext.alloc w3 o).cell t2
 replace t3:=fun o=>(Ext.alloc w3 o).cell t3
 replace t4:=fun o=>(Ext.alloc w3 o).cell t4
 replace t5:=fun o=>(Ext.alloc w3 o).cell t5
 replace t6:=fun o=>(Ext.alloc w3 o).cell t6
 replace t7:=fun o=>(Ext.alloc w3 o).cell t7
 replace t8:=fun o=>(Ext.alloc w3 o).cell t8
 exact⟨hid (h.ext hE),hid hE,hid (Nat.le_trans hB hE.size),hid (TBx ht hE),hid b2,hid b3,hid b4,hid (by omega),t0,t1,t2,t3,t4,t5,t6,t7,t8⟩
end Go.Proofs.YtcfgafododiioaaGreatDoor
set_option maxRecDepth 100000
namespace Go.Proofs.YtcfgafododiioaaGreatDoor
open Go Go.RowKit Go.Tum Go.ChangeMaps Go.Sort
open Go.ParB (upd Lof)
open Go.ParE (putS slotsR slots Closed)
set_option maxHeartbeats 4000000 in
theorem do_act0 {B N:Nat} {w:World} {p:Nat} {x:XP} {q:QR} (a:Ai) (h0:a.dn=0) (h:IX B w p x q) (hB:B≤w.heap.size) (hq:WI N q) (hN:N≤5000000000000000000) (ht:TB w) (hn:a.name.length≤100000) (hm: -9223372036854775808≤a.many∧a.many≤9223372036854775807):
 Calls Tryz.prog 19 #[pv p,aiV a] w fun e w'=>DoI B w p x (actI q a) e w':=by
 obtain⟨R,hR⟩:∃R,actI q a=R:=⟨_,rfl⟩
 rw[hR]
 obtain⟨k,hk⟩:∃k,kindI a=k:=⟨_,rfl⟩
 have hRk:actB q a k=R:=by rw[←hR,←hk];rfl
 obtain⟨dn,lane,many,aid,an,nm,asg,aps,asz⟩:=a
 obtain⟨w1,hw1⟩:∃W,w.alloc (.cells #[.int .i64 dn,.int .i64 lane,.int .i64 many,vU aid,vU an,vN nm,vU asg,vU aps,.int .i64 asz] 40 (0,0))=W:=⟨_,rfl⟩
 obtain⟨w2,hw2⟩:∃W,w1.alloc zAn=W:=⟨_,rfl⟩
 obtain⟨w3,hw3⟩:∃W,w2.alloc (.cells #[.int .u64 0,.int .i64 0,.int .i64 0,.int .i64 0,.int .u64 0,.int .u64 0,.int .u64 0,.int .u64 0,.int .u64 0,.int .i64 0] 79 (0,0))=W:=⟨_,rfl⟩
 obtain⟨HX,HE,HB,HT,HB2,HB3,HB4,HLO,t0,t1,t2,t3,t4,t5,t6,t7,t8⟩:=do_head h hB ht hw1 hw2 hw3
 have H0:=hid h
 have HQ:=hid hq
 have HN:=hid hN
 have HNM:=hid hn
 have HMN:=hid hm
 have HRK:=hid hRk
 obtain⟨g0,hg0⟩:∃g,w.heap.size=g:=⟨_,rfl⟩
 clear h hB hq hN ht hn hm hR hRk hg0
 try dsimp only[kindI] at hk
 dsimp only at h0
 subst h0
 go_enter Tryz.func19,Tryz.ntmps19
 have hke:k= .a0:=by rw[←hk];simp
 subst hke
 clear hk
 have hR2:=HRK.out
 rw[actB0] at hR2
 have hcall:=put_any11 lane an asg aps asz HX.out HB.out HQ.out.wq
 obtain⟨I,hI⟩:∃T,(putQ q lane an asg aps asz).1=T:=⟨_,rfl⟩
 obtain⟨E,hE⟩:∃T,(putQ q lane an asg aps asz).2.1=T:=⟨_,rfl⟩
 try dsimp only at hR2
 rw[hI] at hcall hR2
 rw[hE] at hcall hR2
 clear hI hE
 have HCALL:=hid hcall
 have HR2:=hid hR2
 clear hcall hR2 HRK
 go_wp2_with fail
 refine HCALL.out.mono ?_
 rintro e w5 ⟨rfl,hs⟩
 obtain⟨x5,i5,f5,n5⟩:=hs
 have hoff:∀b,w.heap.size≤b→b∉x.blk p:=fun b hb hm=>by have:=(H0.out.blk_lo b hm).2;omega
 have cHB2:=(f5.block w1.heap.size (by have:=HLO.out;omega) (hoff _ (by have:=HLO.out;omega))).trans HB2.out
 have cHB3:=(f5.block w2.heap.size (by have:=HLO.out;omega) (hoff _ (by have:=HLO.out;omega))).trans HB3.out
 have cHB4:=(f5.block w3.heap.size (by have:=HLO.out;omega) (hoff _ (by have:=HLO.out;omega))).trans HB4.out
 have HS:Hid (XStp B (w3.alloc zAn) p x _ w5):=hid ⟨x5,i5,f5,n5⟩
 clear f5 n5 hoff i5
 obtain⟨r,hr⟩:∃b,w1.heap.size=b:=⟨_,rfl⟩
 obtain⟨ib,hib⟩:∃b,w2.heap.size=b:=⟨_,rfl⟩
 obtain⟨ob,hob⟩:∃b,w3.heap.size=b:=⟨_,rfl⟩
 have HLO2:Hid (w.heap.size≤r∧r<ib∧ib<ob∧ob<(w3.alloc zAn).heap.size):=hid (by have:=HLO.out;omega)
 rw[hr] at cHB2
 rw[hib] at cHB3
 rw[hob] at cHB4
 try rw[hr]
 try rw[hib]
 try rw[hob]
 clear hr hib hob hw1 hw2 hw3
 have a0:=blk15 cHB4
 obtain⟨o0,o1,o2,o3,o4,o5,o6,o7,o8,o9,o10,o11,o12,o13,o14,ofz⟩:=a0
 have of0:=ofz 0
 have of1:=ofz 1
 have ci6:w5.heap[ib]? =some (.cells #[vU it0.id,.int .i64 it0.lane,.int .i64 it0.st,.int .i64 it0.ct,vU it0.due,vU it0.tok,vU it0.turn,vU it0.seg,vU it0.pos,.int .i64 it0.size] 79 (0,0)):=cHB3
 have co6:=cHB4
 have cr6:=cHB2
 obtain⟨w6,hw6⟩:∃W,w5=W:=⟨_,rfl⟩
 have ff6:Fr [r,ib,ob] w5 w6:=by rw[←hw6];exact Fr.refl _ _
 rw[hw6] at ci6 co6 cr6
 subst hw6
 obtain⟨o0,o1,o2,o3,o4,o5,o6,o7,o8,o9,o10,o11,o12,o13,o14,ofz⟩:=blk15 co6
 have of0:=ofz 0
 have of1:=ofz 1
 obtain⟨w7,hw7⟩:∃W,((w5).setCell ⟨ob,1,none⟩ (vU I)).setCell ⟨ob,0,none⟩ (.int .i64 E)=W:=⟨_,rfl⟩
 have co7:w7.heap[ob]? =some (.cells #[.int .i64 E,vU I,.int .u64 0,.int .i64 0,.int .i64 0,.int .i64 0,.int .u64 0,.int .u64 0,.int .u64 0,.int .u64 0,.int .u64 0,.int .i64 0,.int .i64 0,.bool false,.slice none 0 0] 49 (0,0)):=by rw[←hw7];simpa using(Go.Joins.block_setCell (i:=0) (Go.Joins.block_setCell (i:=1) co6 (vU I)) (.int .i64 E))
 have f7:Fr [ob] w5 w7:=by rw[←hw7];exact((fr_setCell (S:=[ob]) _ ⟨ob,1,none⟩ (vU I) (by simp))).trans (fr_setCell (S:=[ob]) _ ⟨ob,0,none⟩ (.int .i64 E) (by simp))
 have ci7:=(f7.block ib (Array.getElem?_eq_some_iff.1 ci6).1 (by have:=HLO2.out;simp;omega)).trans ci6
 have cr7:=(f7.block r (Array.getElem?_eq_some_iff.1 cr6).1 (by have:=HLO2.out;simp;omega)).trans cr6
 have ff7:=ff6.trans (f7.mono (T:=[r,ib,ob]) (by simp))
 clear f7 ofz
 have HF7:=hid ff7
 have CO7:=hid co7
 have CI7:=hid ci7
 have CR7:=hid cr7
 clear ff7 ff6 co6 ci6 cr6 cHB2 cHB3 cHB4 ci7 cr7 co7
 go_wp2_with (first|(refine wpList_load_row rfl 79 (.tmp 5) rfl ib rfl 79 #[vU it0.id,.int .i64 it0.lane,.int .i64 it0.st,.int .i64 it0.ct,vU it0.due,vU it0.tok,vU it0.turn,vU it0.seg,vU it0.pos,.int .i64 it0.size] (0,0) _ CI7.out Tryz.underlying79 rfl (by kernel_rfl) ?_))
 clear t0 t1 t2 t3 t4 t5 t6 t7 t8
 refine(item_any it0 _).mono ?_
 rintro e w8 ⟨rfl,hx8⟩
 have co8:=hx8.obj CO7.out
 have cr8:=hx8.obj CR7.out
 have HF8:Hid (Fr [r,ib,ob] w5 w8):=hid (HF7.out.trans (Ext.fr hx8))
 obtain⟨w9,hw9⟩:∃W,w8.setCells ob 2 [vU it0.id,.int .i64 it0.lane,.int .i64 it0.st,.int .i64 it0.ct,vU it0.due,vU it0.tok,vU it0.turn,vU it0.seg,vU it0.pos,.int .i64 it0.size]=W:=⟨_,rfl⟩
 have hk9:=setCells_blk [vU it0.id,.int .i64 it0.lane,.int .i64 it0.st,.int .i64 it0.ct,vU it0.due,vU it0.tok,vU it0.turn,vU it0.seg,vU it0.pos,.int .i64 it0.size] w8 ob 2 co8
 have hf9:=setCells_fr [vU it0.id,.int .i64 it0.lane,.int .i64 it0.st,.int .i64 it0.ct,vU it0.due,vU it0.tok,vU it0.turn,vU it0.seg,vU it0.pos,.int .i64 it0.size] w8 ob 2
 have HTH:Hid (w8.there ob 2 10):=hid (there_of co8 (by simp))
 rw[hw9] at hk9 hf9
 have co9:w9.heap[ob]? =some (anO {an0 with id:=I,e:=E} (.slice none 0 0)):=by rw[hk9];first|(simp[setA];done)|(simp[setA,an0,it0];done)
 have cr9:=(hf9.block r (Array.getElem?_eq_some_iff.1 cr8).1 (by have:=HLO2.out;simp;omega)).trans cr8
 have ff9:=HF8.out.trans (hf9.mono (T:=[r,ib,ob]) (by simp))
 have HKA:Hid ((w9.setRow r #[.int .i64 E,vU I,vU it0.id,.int .i64 it0.lane,.int .i64 it0.st,.int .i64 it0.ct,vU it0.due,vU it0.tok,vU it0.turn,vU it0.seg,vU it0.pos,.int .i64 it0.size,.int .i64 0,.bool false,.slice none 0 0]).heap[r]? =some (anO {an0 with id:=I,e:=E} (.slice none 0 0))):=hid (by rw[setRow_heap _ _ _ _ _ _ cr9];first|rfl|(simp[an0,it0];done))
 have HFA:=hid (ff9.trans ((setRow_fr w9 r #[.int .i64 E,vU I,vU it0.id,.int .i64 it0.lane,.int .i64 it0.st,.int .i64 it0.ct,vU it0.due,vU it0.tok,vU it0.turn,vU it0.seg,vU it0.pos,.int .i64 it0.size,.int .i64 0,.bool false,.slice none 0 0]).mono (T:=[r,ib,ob]) (by simp)))
 have CO9:Hid (w9.heap[ob]? =some (.cells #[.int .i64 E,vU I,vU it0.id,.int .i64 it0.lane,.int .i64 it0.st,.int .i64 it0.ct,vU it0.due,vU it0.tok,vU it0.turn,vU it0.seg,vU it0.pos,.int .i64 it0.size,.int .i64 0,.bool false,.slice none 0 0] 49 (0,0))):=hid (by rw[co9];first|rfl|(simp[an0,it0];done))
 have CR9:=hid cr9
 clear hk9 hf9 co8 cr8 co9 cr9 ff9 hx8
 go_wp2_with (first|(refine wpList_store_mid rfl 46 (.tmp 133) (.tmp 132) rfl ob 2 #[vU it0.id,.int .i64 it0.lane,.int .i64 it0.st,.int .i64 it0.ct,vU it0.due,vU it0.tok,vU it0.turn,vU it0.seg,vU it0.pos,.int .i64 it0.size] rfl rfl HTH.out (by kernel_rfl) (by simp[Value.oneCell']) ?_;rw[show World.setCells w8 ob 2 (Array.toList #[vU it0.id,.int .i64 it0.lane,.int .i64 it0.st,.int .i64 it0.ct,vU it0.due,vU it0.tok,vU it0.turn,vU it0.seg,vU it0.pos,.int .i64 it0.size])=w9 from hw9])|(refine wpList_load_row rfl 49 (.tmp 6) rfl ob rfl 49 #[.int .i64 E,vU I,vU it0.id,.int .i64 it0.lane,.int .i64 it0.st,.int .i64 it0.ct,vU it0.due,vU it0.tok,vU it0.turn,vU it0.seg,vU it0.pos,.int .i64 it0.size,.int .i64 0,.bool false,.slice none 0 0] (0,0) _ CO9.out Tryz.underlying49 rfl (by kernel_rfl) ?_)|(refine wpList_store_row rfl 49 (.tmp 4) (.tmp 134) rfl r #[.int .i64 E,vU I,vU it0.id,.int .i64 it0.lane,.int .i64 it0.st,.int .i64 it0.ct,vU it0.due,vU it0.tok,vU it0.turn,vU it0.seg,vU it0.pos,.int .i64 it0.size,.int .i64 0,.bool false,.slice none 0 0] rfl rfl 49 _ CR9.out (by kernel_rfl) rfl (by simp[Value.oneCell']) ?_))
 refine bodyPost_ret (do_results _ _ r {an0 with id:=I,e:=E} (.slice none 0 0) rfl HKA.out) rfl ?_
 rw[←HR2.out]
 exact⟨⟨none,0,rfl,World.ownsRow_nil _ _ _ _⟩,do_fin H0.out HE.out HS.out HFA.out (fun b hb=>by have:=HLO2.out;simp only[List.mem_cons,List.not_mem_nil,or_false] at hb;omega)⟩
set_option maxHeartbeats 4000000 in
theorem do_act5 {B N:Nat} {w:World} {p:Nat} {x:XP} {q:QR} (a:Ai) (h5:a.dn=5) (h:IX B w p x q) (hB:B≤w.heap.size) (hq:WI N q) (hN:N≤5000000000000000000) (ht:TB w) (hn:a.name.length≤100000) (hm: -9223372036854775808≤a.many∧a.many≤9223372036854775807):
 Calls Tryz.prog 19 #[pv p,aiV a] w fun e w'=>DoI B w p x (actI q a) e w':=by
 obtain⟨R,hR⟩:∃R,actI q a=R:=⟨_,rfl⟩
 rw[hR]
 obtain⟨k,hk⟩:∃k,kindI a=k:=⟨_,rfl⟩
 have hRk:actB q a k=R:=by rw[←hR,←hk];rfl
 obtain⟨dn,lane,many,aid,an,nm,asg,aps,asz⟩:=a
 obtain⟨w1,hw1⟩:∃W,w.alloc (.cells #[.int .i64 dn,.int .i64 lane,.int .i64 many,vU aid,vU an,vN nm,vU asg,vU aps,.int .i64 asz] 40 (0,0))=W:=⟨_,rfl⟩
 obtain⟨w2,hw2⟩:∃W,w1.alloc zAn=W:=⟨_,rfl⟩
 obtain⟨w3,hw3⟩:∃W,w2.alloc (.cells #[.int .u64 0,.int .i64 0,.int .i64 0,.int .i64 0,.int .u64 0,.int .u64 0,.int .u64 0,.int .u64 0,.int .u64 0,.int .i64 0] 79 (0,0))=W:=⟨_,rfl⟩
 obtain⟨HX,HE,HB,HT,HB2,HB3,HB4,HLO,t0,t1,t2,t3,t4,t5,t6,t7,t8⟩:=do_head h hB ht hw1 hw2 hw3
 have H0:=hid h
 have HQ:=hid hq
 have HN:=hid hN
 have HNM:=hid hn
 have HMN:=hid hm
 have HRK:=hid hRk
 obtain⟨g0,hg0⟩:∃g,w.heap.size=g:=⟨_,rfl⟩
 clear h hB hq hN ht hn hm hR hRk hg0
 try dsimp only[kindI] at hk
 dsimp only at h5
 subst h5
 go_enter Tryz.func19,Tryz.ntmps19
 have hke:k= .a5:=by rw[←hk];simp
 subst hke
 clear hk
 have hR2:=HRK.out
 have hcall:=tick_any11 an HX.out HB.out HQ.out.wq (by have:=HQ.out.lo.tu;have:=HN.out;omega)
 obtain⟨TT,hTT⟩:∃T,tickQ q an=T:=⟨_,rfl⟩
 rw[actB5] at hR2
 rw[hTT] at hR2 hcall
 obtain⟨M,E,q5⟩:=TT
 dsimp only at hcall hR2
 clear hTT
 have HCALL:=hid hcall
 have HR2:=hid hR2
 clear hcall hR2 HRK
 go_wp2_with fail
 refine HCALL.out.mono ?_
 rintro e w5 ⟨rfl,hs⟩
 obtain⟨x5,i5,f5,n5⟩:=hs
 have hoff:∀b,w.heap.size≤b→b∉x.blk p:=fun b hb hm=>by have:=(H0.out.blk_lo b hm).2;omega
 have cHB2:=(f5.block w1.heap.size (by have:=HLO.out;omega) (hoff _ (by have:=HLO.out;omega))).trans HB2.out
 have cHB3:=(f5.block w2.heap.size (by have:=HLO.out;omega) (hoff _ (by have:=HLO.out;omega))).trans HB3.out
 have cHB4:=(f5.block w3.heap.size (by have:=HLO.out;omega) (hoff _ (by have:=HLO.out;omega))).trans HB4.out
 have HS:Hid (XStp B (w3.alloc zAn) p x _ w5):=hid ⟨x5,i5,f5,n5⟩
 clear f5 n5 hoff i5
 obtain⟨r,hr⟩:∃b,w1.heap.size=b:=⟨_,rfl⟩
 obtain⟨ib,hib⟩:∃b,w2.heap.size=b:=⟨_,rfl⟩
 obtain⟨ob,hob⟩:∃b,w3.heap.size=b:=⟨_,rfl⟩
 have HLO2:Hid (w.heap.size≤r∧r<ib∧ib<ob∧ob<(w3.alloc zAn).heap.size):=hid (by have:=HLO.out;omega)
 rw[hr] at cHB2
 rw[hib] at cHB3
 rw[hob] at cHB4
 try rw[hr]
 try rw[hib]
 try rw[hob]
 clear hr hib hob hw1 hw2 hw3
 have a0:=blk15 cHB4
 obtain⟨o0,o1,o2,o3,o4,o5,o6,o7,o8,o9,o10,o11,o12,o13,o14,ofz⟩:=a0
 have of0:=ofz 0
 have of12:=ofz 12
 have ci6:w5.heap[ib]? =some (.cells #[vU it0.id,.int .i64 it0.lane,.int .i64 it0.st,.int .i64 it0.ct,vU it0.due,vU it0.tok,vU it0.turn,vU it0.seg,vU it0.pos,.int .i64 it0.size] 79 (0,0)):=cHB3
 have co6:=cHB4
 have cr6:=cHB2
 obtain⟨w6,hw6⟩:∃W,w5=W:=⟨_,rfl⟩
 have ff6:Fr [r,ib,ob] w5 w6:=by rw[←hw6];exact Fr.refl _ _
 rw[hw6] at ci6 co6 cr6
 subst hw6
 obtain⟨o0,o1,o2,o3,o4,o5,o6,o7,o8,o9,o10,o11,o12,o13,o14,ofz⟩:=blk15 co6
 have of0:=ofz 0
 have of12:=ofz 12
 obtain⟨w7,hw7⟩:∃W,((w5).setCell ⟨ob,12,none⟩ (.int .i64 (M:Int))).setCell ⟨ob,0,none⟩ (.int .i64 E)=W:=⟨_,rfl⟩
 have co7:w7.heap[ob]? =some (.cells #[.int .i64 E,.int .u64 0,.int .u64 0,.int .i64 0,.int .i64 0,.int .i64 0,.int .u64 0,.int .u64 0,.int .u64 0,.int .u64 0,.int .u64 0,.int .i64 0,.int .i64 (M:Int),.bool false,.slice none 0 0] 49 (0,0)):=by rw[←hw7];simpa using(Go.Joins.block_setCell (i:=0) (Go.Joins.block_setCell (i:=12) co6 (.int .i64 (M:Int))) (.int .i64 E))
 have f7:Fr [ob] w5 w7:=by rw[←hw7];exact((fr_setCell (S:=[ob]) _ ⟨ob,12,none⟩ (.int .i64 (M:Int)) (by simp))).trans (fr_setCell (S:=[ob]) _ ⟨ob,0,none⟩ (.int .i64 E) (by simp))
 have ci7:=(f7.block ib (Array.getElem?_eq_some_iff.1 ci6).1 (by have:=HLO2.out;simp;omega)).trans ci6
 have cr7:=(f7.block r (Array.getElem?_eq_some_iff.1 cr6).1 (by have:=HLO2.out;simp;omega)).trans cr6
 have ff7:=ff6.trans (f7.mono (T:=[r,ib,ob]) (by simp))
 clear f7 ofz
 have HF7:=hid ff7
 have CO7:=hid co7
 have CI7:=hid ci7
 have CR7:=hid cr7
 clear ff7 ff6 co6 ci6 cr6 cHB2 cHB3 cHB4 ci7 cr7 co7
 go_wp2_with (first|(refine wpList_load_row rfl 79 (.tmp 5) rfl ib rfl 79 #[vU it0.id,.int .i64 it0.lane,.int .i64 it0.st,.int .i64 it0.ct,vU it0.due,vU it0.tok,vU it0.turn,vU it0.seg,vU it0.pos,.int .i64 it0.size] (0,0) _ CI7.out Tryz.underlying79 rfl (by kernel_rfl) ?_))
 clear t0 t1 t2 t3 t4 t5 t6 t7 t8
 refine(item_any it0 _).mono ?_
 rintro e w8 ⟨rfl,hx8⟩
 have co8:=hx8.obj CO7.out
 have cr8:=hx8.obj CR7.out
 have HF8:Hid (Fr [r,ib,ob] w5 w8):=hid (HF7.out.trans (Ext.fr hx8))
 obtain⟨w9,hw9⟩:∃W,w8.setCells ob 2 [vU it0.id,.int .i64 it0.lane,.int .i64 it0.st,.int .i64 it0.ct,vU it0.due,vU it0.tok,vU it0.turn,vU it0.seg,vU it0.pos,.int .i64 it0.size]=W:=⟨_,rfl⟩
 have hk9:=setCells_blk [vU it0.id,.int .i64 it0.lane,.int .i64 it0.st,.int .i64 it0.ct,vU it0.due,vU it0.tok,vU it0.turn,vU it0.seg,vU it0.pos,.int .i64 it0.size] w8 ob 2 co8
 have hf9:=setCells_fr [vU it0.id,.int .i64 it0.lane,.int .i64 it0.st,.int .i64 it0.ct,vU it0.due,vU it0.tok,vU it0.turn,vU it0.seg,vU it0.pos,.int .i64 it0.size] w8 ob 2
 have HTH:Hid (w8.there ob 2 10):=hid (there_of co8 (by simp))
 rw[hw9] at hk9 hf9
 have co9:w9.heap[ob]? =some (anO {an0 with many:=(M:Int),e:=E} (.slice none 0 0)):=by rw[hk9];first|(simp[setA];done)|(simp[setA,an0,it0];done)
 have cr9:=(hf9.block r (Array.getElem?_eq_some_iff.1 cr8).1 (by have:=HLO2.out;simp;omega)).trans cr8
 have ff9:=HF8.out.trans (hf9.mono (T:=[r,ib,ob]) (by simp))
 have HKA:Hid ((w9.setRow r #[.int .i64 E,.int .u64 0,vU it0.id,.int .i64 it0.lane,.int .i64 it0.st,.int .i64 it0.ct,vU it0.due,vU it0.tok,vU it0.turn,vU it0.seg,vU it0.pos,.int .i64 it0.size,.int .i64 (M:Int),.bool false,.slice none 0 0]).heap[r]? =some (anO {an0 with many:=(M:Int),e:=E} (.slice none 0 0))):=hid (by rw[setRow_heap _ _ _ _ _ _ cr9];first|rfl|(simp[an0,it0];done))
 have HFA:=hid (ff9.trans ((setRow_fr w9 r #[.int .i64 E,.int .u64 0,vU it0.id,.int .i64 it0.lane,.int .i64 it0.st,.int .i64 it0.ct,vU it0.due,vU it0.tok,vU it0.turn,vU it0.seg,vU it0.pos,.int .i64 it0.size,.int .i64 (M:Int),.bool false,.slice none 0 0]).mono (T:=[r,ib,ob]) (by simp)))
 have CO9:Hid (w9.heap[ob]? =some (.cells #[.int .i64 E,.int .u64 0,vU it0.id,.int .i64 it0.lane,.int .i64 it0.st,.int .i64 it0.ct,vU it0.due,vU it0.tok,vU it0.turn,vU it0.seg,vU it0.pos,.int .i64 it0.size,.int .i64 (M:Int),.bool false,.slice none 0 0] 49 (0,0))):=hid (by rw[co9];first|rfl|(simp[an0,it0];done))
 have CR9:=hid cr9
 clear hk9 hf9 co8 cr8 co9 cr9 ff9 hx8
 go_wp2_with (first|(refine wpList_store_mid rfl 46 (.tmp 133) (.tmp 132) rfl ob 2 #[vU it0.id,.int .i64 it0.lane,.int .i64 it0.st,.int .i64 it0.ct,vU it0.due,vU it0.tok,vU it0.turn,vU it0.seg,vU it0.pos,.int .i64 it0.size] rfl rfl HTH.out (by kernel_rfl) (by simp[Value.oneCell']) ?_;rw[show World.setCells w8 ob 2 (Array.toList #[vU it0.id,.int .i64 it0.lane,.int .i64 it0.st,.int .i64 it0.ct,vU it0.due,vU it0.tok,vU it0.turn,vU it0.seg,vU it0.pos,.int .i64 it0.size])=w9 from hw9])|(refine wpList_load_row rfl 49 (.tmp 6) rfl ob rfl 49 #[.int .i64 E,.int .u64 0,vU it0.id,.int .i64 it0.lane,.int .i64 it0.st,.int .i64 it0.ct,vU it0.due,vU it0.tok,vU it0.turn,vU it0.seg,vU it0.pos,.int .i64 it0.size,.int .i64 (M:Int),.bool false,.slice none 0 0] (0,0) _ CO9.out Tryz.underlying49 rfl (by kernel_rfl) ?_)|(refine wpList_store_row rfl 49 (.tmp 4) (.tmp 134) rfl r #[.int .i64 E,.int .u64 0,vU it0.id,.int .i64 it0.lane,.int .i64 it0.st,.int .i64 it0.ct,vU it0.due,vU it0.tok,vU it0.turn,vU it0.seg,vU it0.pos,.int .i64 it0.size,.int .i64 (M:Int),.bool false,.slice none 0 0] rfl rfl 49 _ CR9.out (by kernel_rfl) rfl (by simp[Value.oneCell']) ?_))
 refine bodyPost_ret (do_results _ _ r {an0 with many:=(M:Int),e:=E} (.slice none 0 0) rfl HKA.out) rfl ?_
 rw[←HR2.out]
 exact⟨⟨none,0,rfl,World.ownsRow_nil _ _ _ _⟩,do_fin H0.out HE.out HS.out HFA.out (fun b hb=>by have:=HLO2.out;simp only[List.mem_cons,List.not_mem_nil,or_false] at hb;omega)⟩
set_option maxHeartbeats 4000000 in
theorem do_act6 {B N:Nat} {w:World} {p:Nat} {x:XP} {q:QR} (a:Ai) (h6:a.dn=6) (h:IX B w p x q) (hB:B≤w.heap.size) (hq:WI N q) (hN:N≤5000000000000000000) (ht:TB w) (hn:a.name.length≤100000) (hm: -9223372036854775808≤a.many∧a.many≤9223372036854775807):
 Calls Tryz.prog 19 #[pv p,aiV a] w fun e w'=>DoI B w p x (actI q a) e w':=by
 obtain⟨R,hR⟩:∃R,actI q a=R:=⟨_,rfl⟩
 rw[hR]
 obtain⟨k,hk⟩:∃k,kindI a=k:=⟨_,rfl⟩
 have hRk:actB q a k=R:=by rw[←hR,←hk];rfl
 obtain⟨dn,lane,many,aid,an,nm,asg,aps,asz⟩:=a
 obtain⟨w1,hw1⟩:∃W,w.alloc (.cells #[.int .i64 dn,.int .i64 lane,.int .i64 many,vU aid,vU an,vN nm,vU asg,vU aps,.int .i64 asz] 40 (0,0))=W:=⟨_,rfl⟩
 obtain⟨w2,hw2⟩:∃W,w1.alloc zAn=W:=⟨_,rfl⟩
 obtain⟨w3,hw3⟩:∃W,w2.alloc (.cells #[.int .u64 0,.int .i64 0,.int .i64 0,.int .i64 0,.int .u64 0,.int .u64 0,.int .u64 0,.int .u64 0,.int .u64 0,.int .i64 0] 79 (0,0))=W:=⟨_,rfl⟩
 obtain⟨HX,HE,HB,HT,HB2,HB3,HB4,HLO,t0,t1,t2,t3,t4,t5,t6,t7,t8⟩:=do_head h hB ht hw1 hw2 hw3
 have H0:=hid h
 have HQ:=hid hq
 have HN:=hid hN
 have HNM:=hid hn
 have HMN:=hid hm
 have HRK:=hid hRk
 obtain⟨g0,hg0⟩:∃g,w.heap.size=g:=⟨_,rfl⟩
 clear h hB hq hN ht hn hm hR hRk hg0
 try dsimp only[kindI] at hk
 dsimp only at h6
 subst h6
 go_enter Tryz.func19,Tryz.ntmps19
 have hke:k= .a6:=by rw[←hk];simp
 subst hke
 clear hk
 have hR2:=HRK.out
 rw[actB6] at hR2
 have hcall:=xrequeue_any aid HX.out HB.out HQ.out.wq
 obtain⟨E,hE⟩:∃T,(deadQ q aid 1).1=T:=⟨_,rfl⟩
 try dsimp only at hR2
 rw[hE] at hcall hR2
 clear hE
 have HCALL:=hid hcall
 have HR2:=hid hR2
 clear hcall hR2 HRK
 go_wp2_with fail
 refine HCALL.out.mono ?_
 rintro e w5 ⟨rfl,hs⟩
 obtain⟨x5,i5,f5,n5⟩:=hs
 have hoff:∀b,w.heap.size≤b→b∉x.blk p:=fun b hb hm=>by have:=(H0.out.blk_lo b hm).2;omega
 have cHB2:=(f5.block w1.heap.size (by have:=HLO.out;omega) (hoff _ (by have:=HLO.out;omega))).trans HB2.out
 have cHB3:=(f5.block w2.heap.size (by have:=HLO.out;omega) (hoff _ (by have:=HLO.out;omega))).trans HB3.out
 have cHB4:=(f5.block w3.heap.size (by have:=HLO.out;omega) (hoff _ (by have:=HLO.out;omega))).trans HB4.out
 have HS:Hid (XStp B (w3.alloc zAn) p x _ w5):=hid ⟨x5,i5,f5,n5⟩
 clear f5 n5 hoff i5
 obtain⟨r,hr⟩:∃b,w1.heap.size=b:=⟨_,rfl⟩
 obtain⟨ib,hib⟩:∃b,w2.heap.size=b:=⟨_,rfl⟩
 obtain⟨ob,hob⟩:∃b,w3.heap.size=b:=⟨_,rfl⟩
 have HLO2:Hid (w.heap.size≤r∧r<ib∧ib<ob∧ob<(w3.alloc zAn).heap.size):=hid (by have:=HLO.out;omega)
 rw[hr] at cHB2
 rw[hib] at cHB3
 rw[hob] at cHB4
 try rw[hr]
 try rw[hib]
 try rw[hob]
 clear hr hib hob hw1 hw2 hw3
 have a0:=blk15 cHB4
 obtain⟨o0,o1,o2,o3,o4,o5,o6,o7,o8,o9,o10,o11,o12,o13,o14,ofz⟩:=a0
 have of0:=ofz 0
 have ci6:w5.heap[ib]? =some (.cells #[vU it0.id,.int .i64 it0.lane,.int .i64 it0.st,.int .i64 it0.ct,vU it0.due,vU it0.tok,vU it0.turn,vU it0.seg,vU it0.pos,.int .i64 it0.size] 79 (0,0)):=cHB3
 have co6:=cHB4
 have cr6:=cHB2
 obtain⟨w6,hw6⟩:∃W,w5=W:=⟨_,rfl⟩
 have ff6:Fr [r,ib,ob] w5 w6:=by rw[←hw6];exact Fr.refl _ _
 rw[hw6] at ci6 co6 cr6
 subst hw6
 obtain⟨o0,o1,o2,o3,o4,o5,o6,o7,o8,o9,o10,o11,o12,o13,o14,ofz⟩:=blk15 co6
 have of0:=ofz 0
 obtain⟨w7,hw7⟩:∃W,(w5).setCell ⟨ob,0,none⟩ (.int .i64 E)=W:=⟨_,rfl⟩
 have co7:w7.heap[ob]? =some (.cells #[.int .i64 E,.int .u64 0,.int .u64 0,.int .i64 0,.int .i64 0,.int .i64 0,.int .u64 0,.int .u64 0,.int .u64 0,.int .u64 0,.int .u64 0,.int .i64 0,.int .i64 0,.bool false,.slice none 0 0] 49 (0,0)):=by rw[←hw7];simpa using(Go.Joins.block_setCell (i:=0) co6 (.int .i64 E))
 have f7:Fr [ob] w5 w7:=by rw[←hw7];exact(fr_setCell (S:=[ob]) _ ⟨ob,0,none⟩ (.int .i64 E) (by simp))
 have ci7:=(f7.block ib (Array.getElem?_eq_some_iff.1 ci6).1 (by have:=HLO2.out;simp;omega)).trans ci6
 have cr7:=(f7.block r (Array.getElem?_eq_some_iff.1 cr6).1 (by have:=HLO2.out;simp;omega)).trans cr6
 have ff7:=ff6.trans (f7.mono (T:=[r,ib,ob]) (by simp))
 clear f7 ofz
 have HF7:=hid ff7
 have CO7:=hid co7
 have CI7:=hid ci7
 have CR7:=hid cr7
 clear ff7 ff6 co6 ci6 cr6 cHB2 cHB3 cHB4 ci7 cr7 co7
 go_wp2_with (first|(refine wpList_load_row rfl 79 (.tmp 5) rfl ib rfl 79 #[vU it0.id,.int .i64 it0.lane,.int .i64 it0.st,.int .i64 it0.ct,vU it0.due,vU it0.tok,vU it0.turn,vU it0.seg,vU it0.pos,.int .i64 it0.size] (0,0) _ CI7.out Tryz.underlying79 rfl (by kernel_rfl) ?_))
 clear t0 t1 t2 t3 t4 t5 t6 t7 t8
 refine(item_any it0 _).mono ?_
 rintro e w8 ⟨rfl,hx8⟩
 have co8:=hx8.obj CO7.out
 have cr8:=hx8.obj CR7.out
 have HF8:Hid (Fr [r,ib,ob] w5 w8):=hid (HF7.out.trans (Ext.fr hx8))
 obtain⟨w9,hw9⟩:∃W,w8.setCells ob 2 [vU it0.id,.int .i64 it0.lane,.int .i64 it0.st,.int .i64 it0.ct,vU it0.due,vU it0.tok,vU it0.turn,vU it0.seg,vU it0.pos,.int .i64 it0.size]=W:=⟨_,rfl⟩
 have hk9:=setCells_blk [vU it0.id,.int .i64 it0.lane,.int .i64 it0.st,.int .i64 it0.ct,vU it0.due,vU it0.tok,vU it0.turn,vU it0.seg,vU it0.pos,.int .i64 it0.size] w8 ob 2 co8
 have hf9:=setCells_fr [vU it0.id,.int .i64 it0.lane,.int .i64 it0.st,.int .i64 it0.ct,vU it0.due,vU it0.tok,vU it0.turn,vU it0.seg,vU it0.pos,.int .i64 it0.size] w8 ob 2
 have HTH:Hid (w8.there ob 2 10):=hid (there_of co8 (by simp))
 rw[hw9] at hk9 hf9
 have co9:w9.heap[ob]? =some (anO {an0 with e:=E} (.slice none 0 0)):=by rw[hk9];first|(simp[setA];done)|(simp[setA,an0,it0];done)
 have cr9:=(hf9.block r (Array.getElem?_eq_some_iff.1 cr8).1 (by have:=HLO2.out;simp;omega)).trans cr8
 have ff9:=HF8.out.trans (hf9.mono (T:=[r,ib,ob]) (by simp))
 have HKA:Hid ((w9.setRow r #[.int .i64 E,.int .u64 0,vU it0.id,.int .i64 it0.lane,.int .i64 it0.st,.int .i64 it0.ct,vU it0.due,vU it0.tok,vU it0.turn,vU it0.seg,vU it0.pos,.int .i64 it0.size,.int .i64 0,.bool false,.slice none 0 0]).heap[r]? =some (anO {an0 with e:=E} (.slice none 0 0))):=hid (by rw[setRow_heap _ _ _ _ _ _ cr9];first|rfl|(simp[an0,it0];done))
 have HFA:=hid (ff9.trans ((setRow_fr w9 r #[.int .i64 E,.int .u64 0,vU it0.id,.int .i64 it0.lane,.int .i64 it0.st,.int .i64 it0.ct,vU it0.due,vU it0.tok,vU it0.turn,vU it0.seg,vU it0.pos,.int .i64 it0.size,.int .i64 0,.bool false,.slice none 0 0]).mono (T:=[r,ib,ob]) (by simp)))
 have CO9:Hid (w9.heap[ob]? =some (.cells #[.int .i64 E,.int .u64 0,vU it0.id,.int .i64 it0.lane,.int .i64 it0.st,.int .i64 it0.ct,vU it0.due,vU it0.tok,vU it0.turn,vU it0.seg,vU it0.pos,.int .i64 it0.size,.int .i64 0,.bool false,.slice none 0 0] 49 (0,0))):=hid (by rw[co9];first|rfl|(simp[an0,it0];done))
 have CR9:=hid cr9
 clear hk9 hf9 co8 cr8 co9 cr9 ff9 hx8
 go_wp2_with (first|(refine wpList_store_mid rfl 46 (.tmp 133) (.tmp 132) rfl ob 2 #[vU it0.id,.int .i64 it0.lane,.int .i64 it0.st,.int .i64 it0.ct,vU it0.due,vU it0.tok,vU it0.turn,vU it0.seg,vU it0.pos,.int .i64 it0.size] rfl rfl HTH.out (by kernel_rfl) (by simp[Value.oneCell']) ?_;rw[show World.setCells w8 ob 2 (Array.toList #[vU it0.id,.int .i64 it0.lane,.int .i64 it0.st,.int .i64 it0.ct,vU it0.due,vU it0.tok,vU it0.turn,vU it0.seg,vU it0.pos,.int .i64 it0.size])=w9 from hw9])|(refine wpList_load_row rfl 49 (.tmp 6) rfl ob rfl 49 #[.int .i64 E,.int .u64 0,vU it0.id,.int .i64 it0.lane,.int .i64 it0.st,.int .i64 it0.ct,vU it0.due,vU it0.tok,vU it0.turn,vU it0.seg,vU it0.pos,.int .i64 it0.size,.int .i64 0,.bool false,.slice none 0 0] (0,0) _ CO9.out Tryz.underlying49 rfl (by kernel_rfl) ?_)|(refine wpList_store_row rfl 49 (.tmp 4) (.tmp 134) rfl r #[.int .i64 E,.int .u64 0,vU it0.id,.int .i64 it0.lane,.int .i64 it0.st,.int .i64 it0.ct,vU it0.due,vU it0.tok,vU it0.turn,vU it0.seg,vU it0.pos,.int .i64 it0.size,.int .i64 0,.bool false,.slice none 0 0] rfl rfl 49 _ CR9.out (by kernel_rfl) rfl (by simp[Value.oneCell']) ?_))
 refine bodyPost_ret (do_results _ _ r {an0 with e:=E} (.slice none 0 0) rfl HKA.out) rfl ?_
 rw[←HR2.out]
 exact⟨⟨none,0,rfl,World.ownsRow_nil _ _ _ _⟩,do_fin H0.out HE.out HS.out HFA.out (fun b hb=>by have:=HLO2.out;simp only[List.mem_cons,List.not_mem_nil,or_false] at hb;omega)⟩
end Go.Proofs.YtcfgafododiioaaGreatDoor
