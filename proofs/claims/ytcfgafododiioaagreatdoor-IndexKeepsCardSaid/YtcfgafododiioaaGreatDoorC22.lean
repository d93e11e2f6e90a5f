/- Texts of a claim, side by side. -/
import Derived.Test.YtcfgafododiioaaGreatDoorC11
import Derived.Test.YtcfgafododiioaaGreatDoorC21
set_option linter.unusedSimpArgs false
set_option linter.unusedVariables false
set_option maxRecDepth 100000
namespace Go.Proofs.YtcfgafododiioaaGreatDoor
open Go Go.RowKit Go.Tum Go.ChangeMaps
open Go.ParB (upd Lof)
open Go.ParE (putS slotsR slots Closed)
def TwoQ (W:World) (P:World→Prop) (i:Nat) (_:Nat→Value) (w':World):Prop:=(i<2→Ext W w')∧match i with
 |2=>P w'
 |_=>True
theorem frz {w:World} {b:Nat} {cs:Array Value} {ty:TypeId} (h:w.heap[b]? =some (.cells cs ty (0,0))) (i:Nat):w.frozen? ⟨b,i,none⟩=false:=by simp[World.frozen?,h]
theorem ext1_results (tmps:Array Value) (w:World) (b:Nat) (l:L) (h4:tmps.getD 5 undef= .pointer (some ⟨b,0,none⟩)) (m:w.heap[b]? =some (lfO l)):
 (results Tryz.f90 tmps).run Tryz.prog w= .ok (.tuple #[lv l,tmps.getD 6 undef]) w:=by
 have h4':tmps[5]?.getD undef= .pointer (some ⟨b,0,none⟩):=by simpa using h4
 obtain⟨m0,m1,m2,m3⟩:=blk4 m
 simp[results,Tryz.results90,go_sem,h4',m0,m1,m2,m3]
set_option maxHeartbeats 2000000 in
theorem ext1_any (l:L) (bt bx bs p:Nat) (tok:UInt64) (span now:UInt64) (w:World) (ht:w.cell? ⟨bt,0,none⟩=some (vU tok)) (hp:w.cell? ⟨bx,0,none⟩=some (pv p)) (hs:w.cell? ⟨bs,0,none⟩=some (vU span)) (hn:w.cell? ⟨p,3,none⟩=some (vU now)):
 Calls Tryz.prog 90 (#[lv l]++ #[pv bt,pv bx,pv bs]) w fun e w'=>e= .returned (tl (extendL l tok.toNat now.toNat span.toNat))∧Ext w w':=by
 obtain⟨s,c,d,t⟩:=l
 have hc:=fun w=>extend_any ⟨s,c,d,t⟩ (tok.toNat:Int) (now.toNat:Int) (span.toNat:Int) ⟨Int.natCast_nonneg _,by have:=now.toNat_lt;omega⟩ ⟨Int.natCast_nonneg _,by have:=span.toNat_lt;omega⟩ w
 obtain⟨⟨⟨rs,rc,rd,rt⟩,er⟩,hr⟩:∃r,extendL ⟨s,c,d,t⟩ tok.toNat now.toNat span.toNat=r:=⟨_,rfl⟩
 rw[hr] at hc
 rw[hr]
 have HC:=hid hc
 obtain⟨w1,hw1⟩:∃W,w.alloc (lfO ⟨s,c,d,t⟩)=W:=⟨_,rfl⟩
 obtain⟨w2,hw2⟩:∃W,w1.alloc (.cells #[.int .i64 0,.int .i64 0,.int .u64 0,.int .u64 0] 77 (0,0))=W:=⟨_,rfl⟩
 have e1:Ext w w1:=by rw[←hw1];exact Ext.alloc _ _
 have e2:Ext w1 w2:=by rw[←hw2];exact Ext.alloc _ _
 have hb1:=e2.obj (show w1.heap[w.heap.size]? =some (lfO ⟨s,c,d,t⟩) by rw[←hw1];exact heap_alloc_new _ _)
 have hb2:w2.heap[w1.heap.size]? =some (.cells #[.int .i64 0,.int .i64 0,.int .u64 0,.int .u64 0] 77 (0,0)):=by rw[←hw2];exact heap_alloc_new _ _
 obtain⟨l0,l1,l2,l3⟩:=blk4 hb1
 have L0:=hid l0
 have L1:=hid l1
 have L2:=hid l2
 have L3:=hid l3
 have HT:=hid ((e1.trans e2).cell ht)
 have HP:=hid ((e1.trans e2).cell hp)
 have HS:=hid ((e1.trans e2).cell hs)
 have HN:=hid ((e1.trans e2).cell hn)
 have HE2:=hid (e1.trans e2)
 have HB2:=hid hb2
 have HS1:Hid (w.heap.size≤w1.heap.size):=hid e1.size
 obtain⟨N1,hN1⟩:∃N,w.heap.size=N:=⟨_,rfl⟩
 obtain⟨N2,hN2⟩:∃N,w1.heap.size=N:=⟨_,rfl⟩
 rw[hN1] at L0 L1 L2 L3
 rw[hN2] at HB2
 rw[hN1,hN2] at HS1
 have HN1:=hid hN1
 clear hr hc e1 e2 hb1 hb2 ht hp hs hn l0 l1 l2 l3
 show Calls Tryz.prog 90 #[lv ⟨s,c,d,t⟩,pv bt,pv bx,pv bs] w _
 go_enter Tryz.func90,Tryz.ntmps90
 go_wp2_with fail
 clear hw1 hw2
 refine ParE.wp_region_e (l:=[_,_,_,_,_,_,_,_,_,_,_,_]) rfl (Rg.Ch [7,10] [] (TwoQ w2 fun w'=>w'.heap[N2]? =some (lfO ⟨rs,rc,rd,rt⟩)∧Ext w w')) (ParC.VC [ParC.EQ (lv ⟨s,c,d,t⟩),ParC.EQ (vU tok),ParC.EQ (pv p),ParC.EQ (pv p),ParC.EQ (Value.pointer (some ⟨p,3,none⟩)),ParC.EQ (vU now),ParC.EQ (vU span),ParC.EQ (tl (⟨rs,rc,rd,rt⟩,er)),ParC.EQ (lv ⟨rs,rc,rd,rt⟩),ParC.EQ (Value.int .i64 er),fun _=>True,ParC.EQ (Value.int .i64 er)]) (by kernel_rfl) (by kernel_rfl) (Rg.Ch.start ⟨fun _=>Ext.draw _,trivial⟩) ?_ ?_
 · refine⟨fun L ρ w' hR hC hL hd hk=> ?_,?_⟩
   · obtain⟨(e0:ρ (.tmp 4)=pv N1),-⟩:=hk;refine Par.val_k fun K hK=> ?_;unfold Par.val
     (obtain⟨i,hi,hq⟩:=hR.some 1 rfl (hC.notyet 10 0 hL (by kernel_rfl));have hx:=hq.1 (by omega);have cc0:=hx.cell L0.out;have cc1:=hx.cell L1.out;have cc2:=hx.cell L2.out;have cc3:=hx.cell L3.out;go_simp;exact hK _ _ ⟨hR.other (by decide),rfl⟩)
   refine⟨fun L ρ w' hR hC hL hd hk=> ?_,?_⟩
   · obtain⟨(e0:ρ (.tmp 1)=pv bt),-⟩:=hk;refine Par.val_k fun K hK=> ?_;unfold Par.val
     (obtain⟨i,hi,hq⟩:=hR.some 1 rfl (hC.notyet 10 1 hL (by kernel_rfl));have hx:=hq.1 (by omega);have cc:=hx.cell HT.out;go_simp;exact hK _ _ ⟨hR.other (by decide),rfl⟩)
   refine⟨fun L ρ w' hR hC hL hd hk=> ?_,?_⟩
   · obtain⟨(e0:ρ (.tmp 2)=pv bx),-⟩:=hk;refine Par.val_k fun K hK=> ?_;unfold Par.val
     (obtain⟨i,hi,hq⟩:=hR.some 1 rfl (hC.notyet 10 2 hL (by kernel_rfl));have hx:=hq.1 (by omega);have cc:=hx.cell HP.out;go_simp;exact hK _ _ ⟨hR.other (by decide),rfl⟩)
   refine⟨fun L ρ w' hR hC hL hd hk=> ?_,?_⟩
   · obtain⟨(e0:ρ (.tmp 9)=pv p),-⟩:=hk;refine Par.val_k fun K hK=> ?_;unfold Par.val
     (go_simp;exact hK _ _ ⟨hR.other (by decide),rfl⟩)
   refine⟨fun _ _ _ hR _ _ _ hk=>Par.pv [(10,pv p)] hk (by kernel_rfl) ⟨hR.other (by decide),rfl⟩,?_⟩
   refine⟨fun L ρ w' hR hC hL hd hk=> ?_,?_⟩
   · obtain⟨(e0:ρ (.tmp 11)=Value.pointer (some ⟨p,3,none⟩)),-⟩:=hk;refine Par.val_k fun K hK=> ?_;unfold Par.val
     (obtain⟨i,hi,hq⟩:=hR.some 1 rfl (hC.notyet 10 5 hL (by kernel_rfl));have hx:=hq.1 (by omega);have cc:=hx.cell HN.out;go_simp;exact hK _ _ ⟨hR.other (by decide),rfl⟩)
   refine⟨fun L ρ w' hR hC hL hd hk=> ?_,?_⟩
   · obtain⟨(e0:ρ (.tmp 3)=pv bs),-⟩:=hk;refine Par.val_k fun K hK=> ?_;unfold Par.val
     (obtain⟨i,hi,hq⟩:=hR.some 1 rfl (hC.notyet 10 6 hL (by kernel_rfl));have hx:=hq.1 (by omega);have cc:=hx.cell HS.out;go_simp;exact hK _ _ ⟨hR.other (by decide),rfl⟩)
   refine⟨fun L ρ w' hR hC hL hd hk=> ?_,?_⟩
   · obtain⟨e0,(e1:ρ (.tmp 7)=lv ⟨s,c,d,t⟩),(e2:ρ (.tmp 8)=vU tok),(e3:ρ (.tmp 12)=vU now),(e4:ρ (.tmp 13)=vU span),-⟩:=hk;refine Par.val_k fun K hK=> ?_;unfold Par.val
     (obtain⟨hq,hs⟩:=hR.go 0 rfl hL (.inl rfl) (by decide);have hx:=hq.1 (by decide);refine Par.val_call Tryz.func91 (by kernel_rfl) rfl e0 ?_;simp only[List.map_toArray,List.map_cons,List.map_nil,e1,e2,e3,e4];refine(HC.out _).mono ?_;rintro e w3 ⟨rfl,hx3⟩;exact⟨_,rfl,hK _ _ ⟨hs _ _ _ ⟨fun _=>hx.trans hx3,trivial⟩,rfl⟩⟩)
   refine⟨fun L ρ w' hR hC hL hd hk=> ?_,?_⟩
   · obtain⟨(e0:ρ (.tmp 14)=tl (⟨rs,rc,rd,rt⟩,er)),-⟩:=hk;refine Par.val_k fun K hK=> ?_;unfold Par.val
     (go_simp;exact hK _ _ ⟨hR.other (by decide),rfl⟩)
   refine⟨fun L ρ w' hR hC hL hd hk=> ?_,?_⟩
   · obtain⟨(e0:ρ (.tmp 14)=tl (⟨rs,rc,rd,rt⟩,er)),-⟩:=hk;refine Par.val_k fun K hK=> ?_;unfold Par.val
     (go_simp;exact hK _ _ ⟨hR.other (by decide),rfl⟩)
   refine⟨fun L ρ w' hR hC hL hd hk=> ?_,?_⟩
   · obtain⟨(e0:ρ (.tmp 5)=pv N2),(e1:ρ (.tmp 15)=lv ⟨rs,rc,rd,rt⟩),-⟩:=hk;refine Par.val_k fun K hK=> ?_;unfold Par.val
     (obtain⟨hq,hs⟩:=hR.go 1 rfl hL (.inr ⟨7,rfl,hC.before 7 (i:=10) rfl hd (by kernel_rfl)⟩) (by decide);have hx:=hq.1 (by decide);have hb:=hx.obj HB2.out;obtain⟨cc0,cc1,cc2,cc3⟩:=blk4 hb;have ff0:=frz hb 0;have ff1:=frz hb 1;have ff2:=frz hb 2;have ff3:=frz hb 3;have hk:=set4L hb ⟨rs,rc,rd,rt⟩;have hX:=Below.trans (HE2.out.trans hx) ((set4F _ N2 (.int .i64 rs) (.int .i64 rc) (.int .u64 rd) (.int .u64 rt)).below (by have:=HS1.out;have:=HN1.out;simp;omega) (HE2.out.trans hx).size);have hres:=hid (And.intro hk hX);clear hk hX hb;go_simp;exact hK _ _ ⟨hs none _ _ ⟨fun h=>absurd h (by decide),hres.out⟩,trivial⟩)
   refine⟨fun L ρ w' hR hC hL hd hk=> ?_,?_⟩
   · obtain⟨(e0:ρ (.tmp 16)=Value.int .i64 er),-⟩:=hk;refine Par.val_k fun K hK=> ?_;unfold Par.val
     (go_simp;exact hK _ _ ⟨hR.other (by decide),rfl⟩)
   trivial
 intro a' w' inv hR
 have hq:=Par.donesC inv;simp only[Par.donesV,ParC.EQ,true_and,and_true] at hq
 clear inv
 simp only[List.filterMap_cons,List.filterMap_nil,Par.putAll,Act.put,List.setIfInBounds_toArray,List.set_cons_succ,List.set_cons_zero,hq]
 clear hq
 have hp:=(Rg.Ch.fin hR (by decide) 2 rfl).2;have HPP:=hid hp;clear hp hR
 try clear a'
 go_wp2
 refine bodyPost_ret (ext1_results _ w' N2 ⟨rs,rc,rd,rt⟩ rfl HPP.out.1) rfl ?_
 exact⟨rfl,HPP.out.2⟩
theorem enExtend1 (args:Array Value) (w:World):Sem.run Tryz.prog (callFunc 90 args) w= .ok (.enter 90 args) w:=enter_of Tryz.func90 (by kernel_rfl) (by kernel_rfl) args w
theorem nck1_results (tmps:Array Value) (w:World) (b:Nat) (l:L) (h4:tmps.getD 5 undef= .pointer (some ⟨b,0,none⟩)) (m:w.heap[b]? =some (lfO l)):
 (results Tryz.f82 tmps).run Tryz.prog w= .ok (.tuple #[lv l,tmps.getD 6 undef]) w:=by
 have h4':tmps[5]?.getD undef= .pointer (some ⟨b,0,none⟩):=by simpa using h4
 obtain⟨m0,m1,m2,m3⟩:=blk4 m
 simp[results,Tryz.results82,go_sem,h4',m0,m1,m2,m3]
set_option maxHeartbeats 2000000 in
theorem nck1_any (l:L) (bt bx bs p:Nat) (tok:UInt64) (span now:UInt64) (del:Int) (w:World) (ht:w.cell? ⟨bt,0,none⟩=some (vU tok)) (hp:w.cell? ⟨bx,0,none⟩=some (pv p)) (hs:w.cell? ⟨bs,0,none⟩=some (vU span)) (hn:w.cell? ⟨p,3,none⟩=some (vU now)) (hd:w.cell? ⟨p,2,none⟩=some (.int .i64 del)):
 Calls Tryz.prog 82 (#[lv l]++ #[pv bt,pv bx,pv bs]) w fun e w'=>e= .returned (tl (nackL l tok.toNat now.toNat span.toNat del))∧Ext w w':=by
 obtain⟨s,c,d,t⟩:=l
 have hc:=fun w=>nack_any ⟨s,c,d,t⟩ (tok.toNat:Int) (now.toNat:Int) (span.toNat:Int) del ⟨Int.natCast_nonneg _,by have:=now.toNat_lt;omega⟩ ⟨Int.natCast_nonneg _,by have:=span.toNat_lt;omega⟩ w
 obtain⟨⟨⟨rs,rc,rd,rt⟩,er⟩,hr⟩:∃r,nackL ⟨s,c,d,t⟩ tok.toNat now.toNat span.toNat del=r:=⟨_,rfl⟩
 rw[hr] at hc
 rw[hr]
 have HC:=hid hc
 obtain⟨w1,hw1⟩:∃W,w.alloc (lfO ⟨s,c,d,t⟩)=W:=⟨_,rfl⟩
 obtain⟨w2,hw2⟩:∃W,w1.alloc (.cells #[.int .i64 0,.int .i64 0,.int .u64 0,.int .u64 0] 77 (0,0))=W:=⟨_,rfl⟩
 have e1:Ext w w1:=by rw[←hw1];exact Ext.alloc _ _
 have e2:Ext w1 w2:=by rw[←hw2];exact Ext.alloc _ _
 have hb1:=e2.obj (show w1.heap[w.heap.size]? =some (lfO ⟨s,c,d,t⟩) by rw[←hw1];exact heap_alloc_new _ _)
 have hb2:w2.heap[w1.heap.size]? =some (.cells #[.int .i64 0,.int .i64 0,.int .u64 0,.int .u64 0] 77 (0,0)):=by rw[←hw2];exact heap_alloc_new _ _
 obtain⟨l0,l1,l2,l3⟩:=blk4 hb1
 have L0:=hid l0
 have L1:=hid l1
 have L2:=hid l2
 have L3:=hid l3
 have HT:=hid ((e1.trans e2).cell ht)
 have HP:=hid ((e1.trans e2).cell hp)
 have HS:=hid ((e1.trans e2).cell hs)
 have HN:=hid ((e1.trans e2).cell hn)
 have HD:=hid ((e1.trans e2).cell hd)
 have HE2:=hid (e1.trans e2)
 have HB2:=hid hb2
 have HS1:Hid (w.heap.size≤w1.heap.size):=hid e1.size
 obtain⟨N1,hN1⟩:∃N,w.heap.size=N:=⟨_,rfl⟩
 obtain⟨N2,hN2⟩:∃N,w1.heap.size=N:=⟨_,rfl⟩
 rw[hN1] at L0 L1 L2 L3
 rw[hN2] at HB2
 rw[hN1,hN2] at HS1
 have HN1:=hid hN1
 clear hr hc e1 e2 hb1 hb2 ht hp hs hn l0 l1 l2 l3 hd
 show Calls Tryz.prog 82 #[lv ⟨s,c,d,t⟩,pv bt,pv bx,pv bs] w _
 go_enter Tryz.func82,Tryz.ntmps82
 go_wp2_with fail
 clear hw1 hw2
 refine ParE.wp_region_e (l:=[_,_,_,_,_,_,_,_,_,_,_,_,_,_,_,_,_]) rfl (Rg.Ch [12,15] [] (TwoQ w2 fun w'=>w'.heap[N2]? =some (lfO ⟨rs,rc,rd,rt⟩)∧Ext w w')) (ParC.VC [ParC.EQ (lv ⟨s,c,d,t⟩),ParC.EQ (vU tok),ParC.EQ (pv p),ParC.EQ (pv p),ParC.EQ (Value.pointer (some ⟨p,3,none⟩)),ParC.EQ (vU now),ParC.EQ (vU span),ParC.EQ (pv p),ParC.EQ (pv p),ParC.EQ (Value.pointer (some ⟨p,0,none⟩)),ParC.EQ (Value.pointer (some ⟨p,2,none⟩)),ParC.EQ (Value.int .i64 del),ParC.EQ (tl (⟨rs,rc,rd,rt⟩,er)),ParC.EQ (lv ⟨rs,rc,rd,rt⟩),ParC.EQ (Value.int .i64 er),fun _=>True,ParC.EQ (Value.int .i64 er)]) (by kernel_rfl) (by kernel_rfl) (Rg.Ch.start ⟨fun _=>Ext.draw _,trivial⟩) ?_ ?_
 · refine⟨fun L ρ w' hR hC hL hd hk=> ?_,?_⟩
   · obtain⟨(e0:ρ (.tmp 4)=pv N1),-⟩:=hk;refine Par.val_k fun K hK=> ?_;unfold Par.val
     (obtain⟨i,hi,hq⟩:=hR.some 1 rfl (hC.notyet 15 0 hL (by kernel_rfl));have hx:=hq.1 (by omega);have cc0:=hx.cell L0.out;have cc1:=hx.cell L1.out;have cc2:=hx.cell L2.out;have cc3:=hx.cell L3.out;go_simp;exact hK _ _ ⟨hR.other (by decide),rfl⟩)
   refine⟨fun L ρ w' hR hC hL hd hk=> ?_,?_⟩
   · obtain⟨(e0:ρ (.tmp 1)=pv bt),-⟩:=hk;refine Par.val_k fun K hK=> ?_;unfold Par.val
     (obtain⟨i,hi,hq⟩:=hR.some 1 rfl (hC.notyet 15 1 hL (by kernel_rfl));have hx:=hq.1 (by omega);have cc:=hx.cell HT.out;go_simp;exact hK _ _ ⟨hR.other (by decide),rfl⟩)
   refine⟨fun L ρ w' hR hC hL hd hk=> ?_,?_⟩
   · obtain⟨(e0:ρ (.tmp 2)=pv bx),-⟩:=hk;refine Par.val_k fun K hK=> ?_;unfold Par.val
     (obtain⟨i,hi,hq⟩:=hR.some 1 rfl (hC.notyet 15 2 hL (by kernel_rfl));have hx:=hq.1 (by omega);have cc:=hx.cell HP.out;go_simp;exact hK _ _ ⟨hR.other (by decide),rfl⟩)
   refine⟨fun L ρ w' hR hC hL hd hk=> ?_,?_⟩
   · obtain⟨(e0:ρ (.tmp 9)=pv p),-⟩:=hk;refine Par.val_k fun K hK=> ?_;unfold Par.val
     (go_simp;exact hK _ _ ⟨hR.other (by decide),rfl⟩)
   refine⟨fun _ _ _ hR _ _ _ hk=>Par.pv [(10,pv p)] hk (by kernel_rfl) ⟨hR.other (by decide),rfl⟩,?_⟩
   refine⟨fun L ρ w' hR hC hL hd hk=> ?_,?_⟩
   · obtain⟨(e0:ρ (.tmp 11)=Value.pointer (some ⟨p,3,none⟩)),-⟩:=hk;refine Par.val_k fun K hK=> ?_;unfold Par.val
     (obtain⟨i,hi,hq⟩:=hR.some 1 rfl (hC.notyet 15 5 hL (by kernel_rfl));have hx:=hq.1 (by omega);have cc:=hx.cell HN.out;go_simp;exact hK _ _ ⟨hR.other (by decide),rfl⟩)
   refine⟨fun L ρ w' hR hC hL hd hk=> ?_,?_⟩
   · obtain⟨(e0:ρ (.tmp 3)=pv bs),-⟩:=hk;refine Par.val_k fun K hK=> ?_;unfold Par.val
     (obtain⟨i,hi,hq⟩:=hR.some 1 rfl (hC.notyet 15 6 hL (by kernel_rfl));have hx:=hq.1 (by omega);have cc:=hx.cell HS.out;go_simp;exact hK _ _ ⟨hR.other (by decide),rfl⟩)
   refine⟨fun L ρ w' hR hC hL hd hk=> ?_,?_⟩
   · obtain⟨(e0:ρ (.tmp 2)=pv bx),-⟩:=hk;refine Par.val_k fun K hK=> ?_;unfold Par.val
     (obtain⟨i,hi,hq⟩:=hR.some 1 rfl (hC.notyet 15 7 hL (by kernel_rfl));have hx:=hq.1 (by omega);have cc:=hx.cell HP.out;go_simp;exact hK _ _ ⟨hR.other (by decide),rfl⟩)
   refine⟨fun L ρ w' hR hC hL hd hk=> ?_,?_⟩
   · obtain⟨(e0:ρ (.tmp 14)=pv p),-⟩:=hk;refine Par.val_k fun K hK=> ?_;unfold Par.val
     (go_simp;exact hK _ _ ⟨hR.other (by decide),rfl⟩)
   refine⟨fun _ _ _ hR _ _ _ hk=>Par.pv [(15,pv p)] hk (by kernel_rfl) ⟨hR.other (by decide),rfl⟩,?_⟩
   refine⟨fun _ _ _ hR _ _ _ hk=>Par.pv [(16,Value.pointer (some ⟨p,0,none⟩))] hk (by kernel_rfl) ⟨hR.other (by decide),rfl⟩,?_⟩
   refine⟨fun L ρ w' hR hC hL hd hk=> ?_,?_⟩
   · obtain⟨(e0:ρ (.tmp 17)=Value.pointer (some ⟨p,2,none⟩)),-⟩:=hk;refine Par.val_k fun K hK=> ?_;unfold Par.val
     (obtain⟨i,hi,hq⟩:=hR.some 1 rfl (hC.notyet 15 11 hL (by kernel_rfl));have hx:=hq.1 (by omega);have cc:=hx.cell HD.out;go_simp;exact hK _ _ ⟨hR.other (by decide),rfl⟩)
   refine⟨fun L ρ w' hR hC hL hd hk=> ?_,?_⟩
   · obtain⟨e0,(e1:ρ (.tmp 7)=lv ⟨s,c,d,t⟩),(e2:ρ (.tmp 8)=vU tok),(e3:ρ (.tmp 12)=vU now),(e4:ρ (.tmp 13)=vU span),(e5:ρ (.tmp 18)=Value.int .i64 del),-⟩:=hk;refine Par.val_k fun K hK=> ?_;unfold Par.val
     (obtain⟨hq,hs⟩:=hR.go 0 rfl hL (.inl rfl) (by decide);have hx:=hq.1 (by decide);refine Par.val_call Tryz.func83 (by kernel_rfl) rfl e0 ?_;simp only[List.map_toArray,List.map_cons,List.map_nil,e1,e2,e3,e4,e5];refine(HC.out _).mono ?_;rintro e w3 ⟨rfl,hx3⟩;exact⟨_,rfl,hK _ _ ⟨hs _ _ _ ⟨fun _=>hx.trans hx3,trivial⟩,rfl⟩⟩)
   refine⟨fun L ρ w' hR hC hL hd hk=> ?_,?_⟩
   · obtain⟨(e0:ρ (.tmp 19)=tl (⟨rs,rc,rd,rt⟩,er)),-⟩:=hk;refine Par.val_k fun K hK=> ?_;unfold Par.val
     (go_simp;exact hK _ _ ⟨hR.other (by decide),rfl⟩)
   refine⟨fun L ρ w' hR hC hL hd hk=> ?_,?_⟩
   · obtain⟨(e0:ρ (.tmp 19)=tl (⟨rs,rc,rd,rt⟩,er)),-⟩:=hk;refine Par.val_k fun K hK=> ?_;unfold Par.val
     (go_simp;exact hK _ _ ⟨hR.other (by decide),rfl⟩)
   refine⟨fun L ρ w' hR hC hL hd hk=> ?_,?_⟩
   · obtain⟨(e0:ρ (.tmp 5)=pv N2),(e1:ρ (.tmp 20)=lv ⟨rs,rc,rd,rt⟩),-⟩:=hk;refine Par.val_k fun K hK=> ?_;unfold Par.val
     (obtain⟨hq,hs⟩:=hR.go 1 rfl hL (.inr ⟨12,rfl,hC.before 12 (i:=15) rfl hd (by kernel_rfl)⟩) (by decide);have hx:=hq.1 (by decide);have hb:=hx.obj HB2.out;obtain⟨cc0,cc1,cc2,cc3⟩:=blk4 hb;have ff0:=frz hb 0;have ff1:=frz hb 1;have ff2:=frz hb 2;have ff3:=frz hb 3;have hk:=set4L hb ⟨rs,rc,rd,rt⟩;have hX:=Below.trans (HE2.out.trans hx) ((set4F _ N2 (.int .i64 rs) (.int .i64 rc) (.int .u64 rd) (.int .u64 rt)).below (by have:=HS1.out;have:=HN1.out;simp;omega) (HE2.out.trans hx).size);have hres:=hid (And.intro hk hX);clear hk hX hb;go_simp;exact hK _ _ ⟨hs none _ _ ⟨fun h=>absurd h (by decide),hres.out⟩,trivial⟩)
   refine⟨fun L ρ w' hR hC hL hd hk=> ?_,?_⟩
   · obtain⟨(e0:ρ (.tmp 21)=Value.int .i64 er),-⟩:=hk;refine Par.val_k fun K hK=> ?_;unfold Par.val
     (go_simp;exact hK _ _ ⟨hR.other (by decide),rfl⟩)
   trivial
 intro a' w' inv hR
 have hq:=Par.donesC inv;simp only[Par.donesV,ParC.EQ,true_and,and_true] at hq
 clear inv
 simp only[List.filterMap_cons,List.filterMap_nil,Par.putAll,Act.put,List.setIfInBounds_toArray,List.set_cons_succ,List.set_cons_zero,hq]
 clear hq
 have hp:=(Rg.Ch.fin hR (by decide) 2 rfl).2;have HPP:=hid hp;clear hp hR
 try clear a'
 go_wp2
 refine bodyPost_ret (nck1_results _ w' N2 ⟨rs,rc,rd,rt⟩ rfl HPP.out.1) rfl ?_
 exact⟨rfl,HPP.out.2⟩
theorem enNack1 (args:Array Value) (w:World):Sem.run Tryz.prog (callFunc 82 args) w= .ok (.enter 82 args) w:=enter_of Tryz.func82 (by kernel_rfl) (by kernel_rfl) args w
theorem wait_u (x:L) (now more:UInt64):U64 (waitL x now.toNat more.toNat).1.d∧U64 (waitL x now.toNat more.toNat).1.t:=by
 have h1:=now.toNat_lt
 have h2:=more.toNat_lt
 unfold waitL
 split
 · exact⟨⟨Int.le_refl _,by show(0:Int)≤_;decide⟩,⟨Int.le_refl _,by show(0:Int)≤_;decide⟩⟩
 split
 · exact⟨⟨Int.le_refl _,by show(0:Int)≤_;decide⟩,⟨Int.le_refl _,by show(0:Int)≤_;decide⟩⟩
 · rename_i h3
   unfold overP at h3
   exact⟨⟨by show(0:Int)≤(now.toNat:Int)+more.toNat;omega,by show(now.toNat:Int)+more.toNat≤_;omega⟩,⟨Int.le_refl _,by show(0:Int)≤_;decide⟩⟩
theorem ext_results (tmps:Array Value) (w:World) (b:Nat) (z:It) (h4:tmps.getD 6 undef= .pointer (some ⟨b,0,none⟩)) (m:w.heap[b]? =some (itO z)):
 (results Tryz.f44 tmps).run Tryz.prog w= .ok (.tuple #[itV z,tmps.getD 7 undef]) w:=by
 have h4':tmps[6]?.getD undef= .pointer (some ⟨b,0,none⟩):=by simpa using h4
 obtain⟨m0,m1,m2,m3,m4,m5,m6,m7,m8,m9,-⟩:=blk10 m
 simp[results,Tryz.results44,go_sem,h4',m0,m1,m2,m3,m4,m5,m6,m7,m8,m9]
theorem ext_u (x:L) (tok now span:UInt64):U64 (extendL x tok.toNat now.toNat span.toNat).1.d∧U64 (extendL x tok.toNat now.toNat span.toNat).1.t:=by
 have h1:=now.toNat_lt
 have h2:=span.toNat_lt
 have h3:=tok.toNat_lt
 unfold extendL
 split
 · split
   · exact⟨⟨Int.le_refl _,by show(0:Int)≤_;decide⟩,⟨Int.le_refl _,by show(0:Int)≤_;decide⟩⟩
   · split
     · exact⟨⟨Int.le_refl _,by show(0:Int)≤_;decide⟩,⟨Int.le_refl _,by show(0:Int)≤_;decide⟩⟩
     · rename_i h4
       unfold overP at h4
       exact⟨⟨by show(0:Int)≤(now.toNat:Int)+span.toNat;omega,by show(now.toNat:Int)+span.toNat≤_;omega⟩,⟨Int.natCast_nonneg _,by show(tok.toNat:Int)≤_;omega⟩⟩
 · exact⟨⟨Int.le_refl _,by show(0:Int)≤_;decide⟩,⟨Int.le_refl _,by show(0:Int)≤_;decide⟩⟩
set_option maxHeartbeats 1000000 in
theorem xext_any {B:Nat} {w:World} {p:Nat} {x:XP} {q:QR} (tok span:UInt64) (h:IX B w p x q) (hB:B≤w.heap.size) (hq:WQ q):
 Calls Tryz.prog 44 #[pv p,vU tok,vU span] w fun e w'=>e= .returned (.tuple #[itV (extendQ q tok span).1,.int .i64 (extendQ q tok span).2.1])∧XStp B w p x (extendQ q tok span).2.2 w':=by
 obtain⟨wa,hwa⟩:∃W,w.alloc (.cells #[pv p] 27 (0,0))=W:=⟨_,rfl⟩
 obtain⟨wb,hwb⟩:∃W,wa.alloc (.cells #[vU tok] 36 (0,0))=W:=⟨_,rfl⟩
 obtain⟨w1,hw1⟩:∃W,wb.alloc (.cells #[vU span] 36 (0,0))=W:=⟨_,rfl⟩
 obtain⟨w2,hw2⟩:∃W,w1.alloc zI=W:=⟨_,rfl⟩
 have ea:Ext w wa:=by rw[←hwa];exact Ext.alloc _ _
 have eb:Ext wa wb:=by rw[←hwb];exact Ext.alloc _ _
 have e1:Ext wb w1:=by rw[←hw1];exact Ext.alloc _ _
 have e2:Ext w1 w2:=by rw[←hw2];exact Ext.alloc _ _
 have hba:=(eb.trans (e1.trans e2)).obj (show wa.heap[w.heap.size]? =some (.cells #[pv p] 27 (0,0)) by rw[←hwa];exact heap_alloc_new _ _)
 have hbb:=(e1.trans e2).obj (show wb.heap[wa.heap.size]? =some (.cells #[vU tok] 36 (0,0)) by rw[←hwb];exact heap_alloc_new _ _)
 have hb1:=e2.obj (show w1.heap[wb.heap.size]? =some (.cells #[vU span] 36 (0,0)) by rw[←hw1];exact heap_alloc_new _ _)
 have hb2:w2.heap[w1.heap.size]? =some zI:=by rw[←hw2];exact heap_alloc_new _ _
 have ka:w2.cell? ⟨w.heap.size,0,none⟩=some (pv p):=by rw[cell_of_row _ _ _ _ _ _ hba];rfl
 have kb:w2.cell? ⟨wa.heap.size,0,none⟩=some (vU tok):=by rw[cell_of_row _ _ _ _ _ _ hbb];rfl
 have k1:w2.cell? ⟨wb.heap.size,0,none⟩=some (vU span):=by rw[cell_of_row _ _ _ _ _ _ hb1];rfl
 have eall:=ea.trans (eb.trans (e1.trans e2))
 have h2:=h.ext eall
 have c2:=h2.cells 2 (.int .i64 q.del) rfl
 have c3:=h2.cells 3 (vU q.now) rfl
 have hc:=withLease_any tok (fun l=>extendL l tok.toNat q.now.toNat span.toNat) 90 #[pv wa.heap.size,pv w.heap.size,pv wb.heap.size] h2 (Nat.le_trans hB eall.size) hq enExtend1 (fun l w3 hx=>ext1_any l _ _ _ p tok span q.now w3 (hx.cell kb) (hx.cell ka) (hx.cell k1) (hx.cell c3)) (fun z=>ext_u _ tok q.now span)
 have hR:extendQ q tok span=withQ q tok (fun l=>extendL l tok.toNat q.now.toNat span.toNat):=rfl
 rw[←hR] at hc
 obtain⟨⟨⟨yi,yl,ys,yc,yd,yt,yu,yg,yp,yz⟩,er,q'⟩,hy⟩:∃r,extendQ q tok span=r:=⟨_,rfl⟩
 rw[hy] at hc⊢
 dsimp only at hc⊢
 have HC:=hid hc
 have HE2:=hid eall
 have HB2:=hid hb2
 have HN1:Hid (w1.heap.size∉x.blk p):=hid fun hm=>by have h3:=(h.blk_lo _ hm).2;have h4:=ea.size;have h5:=eb.size;have h6:=e1.size;omega
 have HS1:Hid (w.heap.size≤w1.heap.size):=hid (ea.trans (eb.trans e1)).size
 clear hc hR hy h2 h hB hq ea eb e1 e2 eall hba hbb hb1 hb2 c2 c3
 go_enter Tryz.func44,Tryz.ntmps44
 go_wp2_with fail
 clear ka kb k1 hw2
 refine HC.out.mono ?_
 rintro e w3 ⟨rfl,hs⟩
 have HS:=hid hs
 obtain⟨x3,i3,f3,n3⟩:=hs
 obtain⟨hx3,-⟩:=keepF f3 n3 HB2.out HN1.out
 obtain⟨a0,a1,a2,a3,a4,a5,a6,a7,a8,a9,af⟩:=blk10 hx3
 have af0:=af 0
 have af1:=af 1
 have af2:=af 2
 have af3:=af 3
 have af4:=af 4
 have af5:=af 5
 have af6:=af 6
 have af7:=af 7
 have af8:=af 8
 have af9:=af 9
 obtain⟨w6,hW6⟩:∃W,((((((((((w3).setCell ⟨w1.heap.size,0,none⟩ (vU yi)).setCell ⟨w1.heap.size,1,none⟩ (.int .i64 yl)).setCell ⟨w1.heap.size,2,none⟩ (.int .i64 ys)).setCell ⟨w1.heap.size,3,none⟩ (.int .i64 yc)).setCell ⟨w1.heap.size,4,none⟩ (vU yd)).setCell ⟨w1.heap.size,5,none⟩ (vU yt)).setCell ⟨w1.heap.size,6,none⟩ (vU yu)).setCell ⟨w1.heap.size,7,none⟩ (vU yg)).setCell ⟨w1.heap.size,8,none⟩ (vU yp)).setCell ⟨w1.heap.size,9,none⟩ (.int .i64 yz)=W:=⟨_,rfl⟩
 have hE6:setI w3 w1.heap.size ⟨yi,yl,ys,yc,yd,yt,yu,yg,yp,yz⟩=w6:=by rw[←hW6];rfl
 have hk6:=setI_blk (y:=it0) hx3 ⟨yi,yl,ys,yc,yd,yt,yu,yg,yp,yz⟩
 have f6:=setI_fr w3 w1.heap.size ⟨yi,yl,ys,yc,yd,yt,yu,yg,yp,yz⟩
 rw[hE6] at hk6 f6
 have HK6:=hid hk6
 have HF6:=hid f6
 clear hE6 hk6 f6
 clear i3 f3 n3 hx3 af
 go_wp2
 refine bodyPost_ret (ext_results _ w6 w1.heap.size ⟨yi,yl,ys,yc,yd,yt,yu,yg,yp,yz⟩ rfl HK6.out) rfl ?_
 exact⟨rfl,HS.out.last HE2.out HS1.out HB2.out HN1.out HF6.out⟩
theorem nck_results (tmps:Array Value) (w:World) (b:Nat) (z:It) (h4:tmps.getD 6 undef= .pointer (some ⟨b,0,none⟩)) (m:w.heap[b]? =some (itO z)):
 (results Tryz.f35 tmps).run Tryz.prog w= .ok (.tuple #[itV z,tmps.getD 7 undef]) w:=by
 have h4':tmps[6]?.getD undef= .pointer (some ⟨b,0,none⟩):=by simpa using h4
 obtain⟨m0,m1,m2,m3,m4,m5,m6,m7,m8,m9,-⟩:=blk10 m
 simp[results,Tryz.results35,go_sem,h4',m0,m1,m2,m3,m4,m5,m6,m7,m8,m9]
theorem nck_u (x:L) (tok now span:UInt64) (del:Int):U64 (nackL x tok.toNat now.toNat span.toNat del).1.d∧U64 (nackL x tok.toNat now.toNat span.toNat del).1.t:=by
 unfold nackL
 split
 · split
   · unfold endL
     split<;>exact⟨⟨Int.le_refl _,by show(0:Int)≤_;decide⟩,⟨Int.le_refl _,by show(0:Int)≤_;decide⟩⟩
   · exact wait_u x now span
 · exact⟨⟨Int.le_refl _,by show(0:Int)≤_;decide⟩,⟨Int.le_refl _,by show(0:Int)≤_;decide⟩⟩
set_option maxHeartbeats 1000000 in
theorem xnck_any {B:Nat} {w:World} {p:Nat} {x:XP} {q:QR} (tok span:UInt64) (h:IX B w p x q) (hB:B≤w.heap.size) (hq:WQ q):
 Calls Tryz.prog 35 #[pv p,vU tok,vU span] w fun e w'=>e= .returned (.tuple #[itV (nackQ q tok span).1,.int .i64 (nackQ q tok span).2.1])∧XStp B w p x (nackQ q tok span).2.2 w':=by
 obtain⟨wa,hwa⟩:∃W,w.alloc (.cells #[pv p] 27 (0,0))=W:=⟨_,rfl⟩
 obtain⟨wb,hwb⟩:∃W,wa.alloc (.cells #[vU tok] 36 (0,0))=W:=⟨_,rfl⟩
 obtain⟨w1,hw1⟩:∃W,wb.alloc (.cells #[vU span] 36 (0,0))=W:=⟨_,rfl⟩
 obtain⟨w2,hw2⟩:∃W,w1.alloc zI=W:=⟨_,rfl⟩
 have ea:Ext w wa:=by rw[←hwa];exact Ext.alloc _ _
 have eb:Ext wa wb:=by rw[←hwb];exact Ext.alloc _ _
 have e1:Ext wb w1:=by rw[←hw1];exact Ext.alloc _ _
 have e2:Ext w1 w2:=by rw[←hw2];exact Ext.alloc _ _
 have hba:=(eb.trans (e1.trans e2)).obj (show wa.heap[w.heap.size]? =some (.cells #[pv p] 27 (0,0)) by rw[←hwa];exact heap_alloc_new _ _)
 have hbb:=(e1.trans e2).obj (show wb.heap[wa.heap.size]? =some (.cells #[vU tok] 36 (0,0)) by rw[←hwb];exact heap_alloc_new _ _)
 have hb1:=e2.obj (show w1.heap[wb.heap.size]? =some (.cells #[vU span] 36 (0,0)) by rw[←hw1];exact heap_alloc_new _ _)
 have hb2:w2.heap[w1.heap.size]? =some zI:=by rw[←hw2];exact heap_alloc_new _ _
 have ka:w2.cell? ⟨w.heap.size,0,none⟩=some (pv p):=by rw[cell_of_row _ _ _ _ _ _ hba];rfl
 have kb:w2.cell? ⟨wa.heap.size,0,none⟩=some (vU tok):=by rw[cell_of_row _ _ _ _ _ _ hbb];rfl
 have k1:w2.cell? ⟨wb.heap.size,0,none⟩=some (vU span):=by rw[cell_of_row _ _ _ _ _ _ hb1];rfl
 have eall:=ea.trans (eb.trans (e1.trans e2))
 have h2:=h.ext eall
 have c2:=h2.cells 2 (.int .i64 q.del) rfl
 have c3:=h2.cells 3 (vU q.now) rfl
 have hc:=withLease_any tok (fun l=>nackL l tok.toNat q.now.toNat span.toNat q.del) 82 #[pv wa.heap.size,pv w.heap.size,pv wb.heap.size] h2 (Nat.le_trans hB eall.size) hq enNack1 (fun l w3 hx=>nck1_any l _ _ _ p tok span q.now q.del w3 (hx.cell kb) (hx.cell ka) (hx.cell k1) (hx.cell c3) (hx.cell c2)) (fun z=>nck_u _ tok q.now span q.del)
 have hR:nackQ q tok span=withQ q tok (fun l=>nackL l tok.toNat q.now.toNat span.toNat q.del):=rfl
 rw[←hR] at hc
 obtain⟨⟨⟨yi,yl,ys,yc,yd,yt,yu,yg,yp,yz⟩,er,q'⟩,hy⟩:∃r,nackQ q tok span=r:=⟨_,rfl⟩
 rw[hy] at hc⊢
 dsimp only at hc⊢
 have HC:=hid hc
 have HE2:=hid eall
 have HB2:=hid hb2
 have HN1:Hid (w1.heap.size∉x.blk p):=hid fun hm=>by have h3:=(h.blk_lo _ hm).2;have h4:=ea.size;have h5:=eb.size;have h6:=e1.size;omega
 have HS1:Hid (w.heap.size≤w1.heap.size):=hid (ea.trans (eb.trans e1)).size
 clear hc hR hy h2 h hB hq ea eb e1 e2 eall hba hbb hb1 hb2 c2 c3
 go_enter Tryz.func35,Tryz.ntmps35
 go_wp2_with fail
 clear ka kb k1 hw2
 refine HC.out.mono ?_
 rintro e w3 ⟨rfl,hs⟩
 have HS:=hid hs
 obtain⟨x3,i3,f3,n3⟩:=hs
 obtain⟨hx3,-⟩:=keepF f3 n3 HB2.out HN1.out
 obtain⟨a0,a1,a2,a3,a4,a5,a6,a7,a8,a9,af⟩:=blk10 hx3
 have af0:=af 0
 have af1:=af 1
 have af2:=af 2
 have af3:=af 3
 have af4:=af 4
 have af5:=af 5
 have af6:=af 6
 have af7:=af 7
 have af8:=af 8
 have af9:=af 9
 obtain⟨w6,hW6⟩:∃W,((((((((((w3).setCell ⟨w1.heap.size,0,none⟩ (vU yi)).setCell ⟨w1.heap.size,1,none⟩ (.int .i64 yl)).setCell ⟨w1.heap.size,2,none⟩ (.int .i64 ys)).setCell ⟨w1.heap.size,3,none⟩ (.int .i64 yc)).setCell ⟨w1.heap.size,4,none⟩ (vU yd)).setCell ⟨w1.heap.size,5,none⟩ (vU yt)).setCell ⟨w1.heap.size,6,none⟩ (vU yu)).setCell ⟨w1.heap.size,7,none⟩ (vU yg)).setCell ⟨w1.heap.size,8,none⟩ (vU yp)).setCell ⟨w1.heap.size,9,none⟩ (.int .i64 yz)=W:=⟨_,rfl⟩
 have hE6:setI w3 w1.heap.size ⟨yi,yl,ys,yc,yd,yt,yu,yg,yp,yz⟩=w6:=by rw[←hW6];rfl
 have hk6:=setI_blk (y:=it0) hx3 ⟨yi,yl,ys,yc,yd,yt,yu,yg,yp,yz⟩
 have f6:=setI_fr w3 w1.heap.size ⟨yi,yl,ys,yc,yd,yt,yu,yg,yp,yz⟩
 rw[hE6] at hk6 f6
 have HK6:=hid hk6
 have HF6:=hid f6
 clear hE6 hk6 f6
 clear i3 f3 n3 hx3 af
 go_wp2
 refine bodyPost_ret (nck_results _ w6 w1.heap.size ⟨yi,yl,ys,yc,yd,yt,yu,yg,yp,yz⟩ rfl HK6.out) rfl ?_
 exact⟨rfl,HS.out.last HE2.out HS1.out HB2.out HN1.out HF6.out⟩
end Go.Proofs.YtcfgafododiioaaGreatDoor
