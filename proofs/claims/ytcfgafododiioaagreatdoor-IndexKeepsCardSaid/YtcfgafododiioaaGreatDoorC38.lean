/- Texts of a claim, side by side. -/
import Derived.Test.YtcfgafododiioaaGreatDoorC11
import Derived.Test.YtcfgafododiioaaGreatDoorC37
import Derived.Deep.MidRow
import Derived.Laws.Rows
import Derived.Laws.Tables
set_option linter.unusedSimpArgs false
set_option linter.unusedVariables false
set_option maxRecDepth 100000
namespace Go.Proofs.YtcfgafododiioaaGreatDoor
open Go Go.RowKit Go.Tum Go.ChangeMaps Go.Sort
open Go.ParB (upd Lof)
open Go.ParE (putS slotsR slots Closed)
abbrev vJ (n:Nat):Value:= .int .i64 (n:Int)
theorem infoInt:(Tryz.prog.info? 3).map (fun i=>(i.zero,i.size,i.bytes))=some (some (.int .i64 0),1,8):=by kernel_rfl
theorem ints_one (l:List Nat):∀y∈l.map vJ,y.oneCell'=true:=fun y hy=>by
 obtain⟨z,-,rfl⟩:=List.mem_map.1 hy
 rfl
set_option maxHeartbeats 1000000 in
theorem nclone_any (w:World) (a:Addr) (n cap:Nat) (l:List Nat) (hu:Sl w 1 (.slice (some a) n cap) n (l.map vJ)) (hl:n≤100000):
 Calls Tryz.prog 69 #[.slice (some a) n cap] w fun e w'=>(∃ao cap,e= .returned (.slice ao n cap)∧w'.ownsRow w.heap.size 3 1 (.slice ao n cap) n (l.map vJ))∧Ext w w':=by
 have q32:∀(w:World) (a:Option Addr) (n c:Nat),(binOp .eql 67 (.slice a n c) (.slice none 0 0)).run Tryz.prog w= .ok (.bool a.isNone) w:=fun w a n c=>Lib.run_eql_slice_nil w _ _ a n c 0 0 Tryz.underlying67
 have HU:=hid hu
 have HL:=hid hl
 clear hu hl
 go_enter Tryz.func69,Tryz.ntmps69
 go_wp2_with (at_builtin;refine wpList_append_slN rfl (.tmp 5) (.tmp 6) 67 rfl w.heap.size 3 Tryz.underlying67 infoInt rfl (by decide) rfl (own0 w w.heap.size 3 1 (Nat.le_refl _)) rfl (HU.out.ext (Ext.alloc _ _)) (ints_one l) n (by simp) (by have:=HL.out;simp[maxLen];omega) (by have:=HL.out;omega) (by simp) ?_;intro ao2 cap2 w2 hO2 hg2 hb2;have HO2:=hid hO2;have HE2:Hid (Ext w w2):=hid (Below.trans (Ext.alloc _ _) hb2);clear hO2 hg2 hb2)
 go_ret
 have:=HO2.out
 rw[List.nil_append] at this
 exact⟨⟨_,_,rfl,this⟩,HE2.out⟩
def cntK (l:List It) (k:Nat):Nat:=(l.filter fun z=>decide (z.st=1∧z.lane=(k:Int))).length
def cntT (l:List It) (t:Int):Nat:=(l.filter fun z=>decide (z.st=t)).length
abbrev rdC (l:List It):Array Value:= #[vJ (cntK l 0),vJ (cntK l 1),vJ (cntK l 2),vJ (cntK l 3),vJ (cntK l 4),vJ (cntK l 5),vJ (cntK l 6),vJ (cntK l 7)]
abbrev ssC (nw nx:UInt64) (v:Value) (l:List It):Array Value:= #[vU nw,vU nx,v,vJ (cntT l 2),vJ (cntT l 3),vJ (cntT l 4)]
theorem cntK_app (l:List It) (z:It) (k:Nat):cntK (l++[z]) k=if z.st=1∧z.lane=(k:Int) then cntK l k+1 else cntK l k:=by
 unfold cntK
 rw[List.filter_append,List.length_append]
 split<;>simp[*]
theorem cntT_app (l:List It) (z:It) (t:Int):cntT (l++[z]) t=if z.st=t then cntT l t+1 else cntT l t:=by
 unfold cntT
 rw[List.filter_append,List.length_append]
 split<;>simp[*]
theorem cntK_perm {l m:List It} (h:l.Perm m) (k:Nat):cntK l k=cntK m k:=(h.filter _).length_eq
theorem cntT_perm {l m:List It} (h:l.Perm m) (t:Int):cntT l t=cntT m t:=(h.filter _).length_eq
theorem cntK_le (l:List It) (k:Nat):cntK l k≤l.length:=List.length_filter_le _ _
theorem cntT_le (l:List It) (t:Int):cntT l t≤l.length:=List.length_filter_le _ _
theorem rdC_at (l:List It) {n:Nat} (hn:n<8):(rdC l)[n]? =some (vJ (cntK l n)):=by
 match n,hn with
 |0,_=>rfl
 |1,_=>rfl
 |2,_=>rfl
 |3,_=>rfl
 |4,_=>rfl
 |5,_=>rfl
 |6,_=>rfl
 |7,_=>rfl
theorem rdC_set (l:List It) (z:It) {n:Nat} (hn:n<8) (h1:z.st=1) (hz:z.lane=(n:Int)):(rdC l).setIfInBounds n (vJ (cntK l n+1))=rdC (l++[z]):=by
 have e:∀k,cntK (l++[z]) k=if n=k then cntK l k+1 else cntK l k:=fun k=>by
  rw[cntK_app]
  by_cases hk:n=k
  · rw[if_pos hk,if_pos ⟨h1,by rw[hz,hk]⟩]
  · rw[if_neg hk,if_neg]
    rintro⟨-,h⟩
    rw[hz] at h
    exact hk (by omega)
 unfold rdC
 rw[e 0,e 1,e 2,e 3,e 4,e 5,e 6,e 7]
 match n,hn with
 |0,_=>simp
 |1,_=>simp
 |2,_=>simp
 |3,_=>simp
 |4,_=>simp
 |5,_=>simp
 |6,_=>simp
 |7,_=>simp
theorem rdC_keep (l:List It) (z:It) (h1:z.st≠1):rdC (l++[z])=rdC l:=by
 have e:∀k,cntK (l++[z]) k=cntK l k:=fun k=>by rw[cntK_app,if_neg fun h=>h1 h.1]
 unfold rdC
 rw[e 0,e 1,e 2,e 3,e 4,e 5,e 6,e 7]
theorem blk6s {w:World} {b:Nat} {v0 v1 v2 v3 v4 v5:Value} {ty:TypeId} (h:w.heap[b]? =some (.cells #[v0,v1,v2,v3,v4,v5] ty (0,0))):
 w.cell? ⟨b,0,none⟩=some v0∧w.cell? ⟨b,1,none⟩=some v1∧w.cell? ⟨b,2,none⟩=some v2∧w.cell? ⟨b,3,none⟩=some v3∧w.cell? ⟨b,4,none⟩=some v4∧w.cell? ⟨b,5,none⟩=some v5∧∀i,w.frozen? ⟨b,i,none⟩=false:=by
 refine⟨?_,?_,?_,?_,?_,?_,?_⟩
 all_goals first|(rw[cell_of_row _ _ _ _ _ _ h];rfl)|exact fun i=>by simp[World.frozen?,h]
def setU (w:World) (b:Nat) (v0 v1 v2 v3 v4 v5:Value):World:=(((((w.setCell ⟨b,0,none⟩ v0).setCell ⟨b,1,none⟩ v1).setCell ⟨b,2,none⟩ v2).setCell ⟨b,3,none⟩ v3).setCell ⟨b,4,none⟩ v4).setCell ⟨b,5,none⟩ v5
theorem setU_blk {w:World} {b:Nat} {u0 u1 u2 u3 u4 u5:Value} {ty:TypeId} (h:w.heap[b]? =some (.cells #[u0,u1,u2,u3,u4,u5] ty (0,0))) (v0 v1 v2 v3 v4 v5:Value):(setU w b v0 v1 v2 v3 v4 v5).heap[b]? =some (.cells #[v0,v1,v2,v3,v4,v5] ty (0,0)):=by
 have h1:=Go.Joins.block_setCell (i:=5) (Go.Joins.block_setCell (i:=4) (Go.Joins.block_setCell (i:=3) (Go.Joins.block_setCell (i:=2) (Go.Joins.block_setCell (i:=1) (Go.Joins.block_setCell (i:=0) h v0) v1) v2) v3) v4) v5
 unfold setU
 simpa using h1
theorem setU_fr (w:World) (b:Nat) (v0 v1 v2 v3 v4 v5:Value):Fr [b] w (setU w b v0 v1 v2 v3 v4 v5):=by
 have f:∀(w:World) (i:Nat) (u:Value),Fr [b] w (w.setCell ⟨b,i,none⟩ u):=fun w i u=>fr_setCell _ _ _ (by simp)
 unfold setU
 exact(((((f _ _ _).trans (f _ _ _)).trans (f _ _ _)).trans (f _ _ _)).trans (f _ _ _)).trans (f _ _ _)
theorem ss_results (tmps:Array Value) (w:World) (b:Nat) (nw nx:UInt64) (v:Value) (l:List It) (h4:tmps.getD 2 undef= .pointer (some ⟨b,0,none⟩)) (m:w.heap[b]? =some (.cells (ssC nw nx v l) 69 (0,0))):
 (results Tryz.f26 tmps).run Tryz.prog w= .ok (.agg (ssC nw nx v l)) w:=by
 have h4':tmps[2]?.getD undef= .pointer (some ⟨b,0,none⟩):=by simpa using h4
 obtain⟨m0,m1,m2,m3,m4,m5,-⟩:=blk6s m
 simp[results,Tryz.results26,go_sem,h4',m0,m1,m2,m3,m4,m5]
def SsQ (W:World) (nw nx:UInt64) (i:Nat) (σ:Nat→Value) (w':World):Prop:=Ext W w'∧match i with
 |0=>True
 |1=>∃b,σ 3=pv b∧W.heap.size≤b∧w'.heap[b]? =some (.cells #[.int .u64 0,.int .u64 0,.slice none 0 0,.int .i64 0,.int .i64 0,.int .i64 0] 69 (0,0))
 |_=>∃b,σ 3=pv b∧W.heap.size≤b∧w'.heap[b]? =some (.cells (ssC nw nx (.slice none 0 0) []) 69 (0,0))
theorem ss_store {W w':World} {b:Nat} (nw nx:UInt64) (hx:Ext W w') (hl:W.heap.size≤b) (hb:w'.heap[b]? =some (.cells #[.int .u64 0,.int .u64 0,.slice none 0 0,.int .i64 0,.int .i64 0,.int .i64 0] 69 (0,0))):
 Ext W (setU w' b (vU nw) (vU nx) (.slice none 0 0) (.int .i64 0) (.int .i64 0) (.int .i64 0))∧(setU w' b (vU nw) (vU nx) (.slice none 0 0) (.int .i64 0) (.int .i64 0) (.int .i64 0)).heap[b]? =some (.cells (ssC nw nx (.slice none 0 0) []) 69 (0,0)):=
 ⟨Below.trans hx ((setU_fr _ _ _ _ _ _ _ _).below (by simpa using hl) hx.size),setU_blk hb _ _ _ _ _ _⟩
def StatsP (w:World) (q:QR) (e:Ending) (w':World):Prop:=(∃(ro:Option Addr) (rc n:Nat),q.lanes=(n:Int)∧e= .returned (.agg (ssC q.now q.next (.slice ro n rc) (q.its.map Prod.snd)))∧w'.ownsRow w.heap.size 3 1 (.slice ro n rc) n (((List.range n).map (cntK (q.its.map Prod.snd))).map vJ))∧Ext w w'
theorem RNGI.off {w:World} {m r cnt b:Nat} {l rem:List (UInt64×It)} (h:RNGI w m r l rem cnt) {cs:Array Value} {e:Nat} (hb:w.heap[b]? =some (.cells cs e (0,0))):m∉[b]∧r∉[b]:=by
 obtain⟨⟨o1,h1,k1⟩,⟨o2,h2,k2⟩⟩:=h.blocks
 refine⟨fun hm=> ?_,fun hm=> ?_⟩
 · rw[List.mem_singleton] at hm
   rw[hm,hb] at h1;cases h1
   exact k1 _ _ rfl
 · rw[List.mem_singleton] at hm
   rw[hm,hb] at h2;cases h2
   exact k2 _ _ rfl
structure UsK (w:World) (rb sb N2:Nat) (nw nx:UInt64) (ss:List It) (wr:World):Prop where
 x:Ext w wr
 r:wr.heap[rb]? =some (.cells (rdC ss) 141 (0,0))
 s:wr.heap[sb]? =some (.cells (ssC nw nx (.slice none 0 0) ss) 69 (0,0))
 n:wr.heap[N2]? =some (.cells #[.int .u64 0,.int .u64 0,.slice none 0 0,.int .i64 0,.int .i64 0,.int .i64 0] 69 (0,0))
 l:w.heap.size≤rb∧w.heap.size≤sb∧w.heap.size≤N2
 ne:rb≠sb∧rb≠N2∧sb≠N2
theorem UsK.ext {w wr w':World} {rb sb N2:Nat} {nw nx:UInt64} {ss:List It} (h:UsK w rb sb N2 nw nx ss wr) (k:Ext wr w'):UsK w rb sb N2 nw nx ss w':=⟨h.x.trans k,k.obj h.r,k.obj h.s,k.obj h.n,h.l,h.ne⟩
theorem UsK.fr {w wr w':World} {rb sb N2 r:Nat} {nw nx:UInt64} {ss:List It} (h:UsK w rb sb N2 nw nx ss wr) (f:Fr [r] wr w') (hr:w.heap.size≤r∧r≠rb∧r≠sb∧r≠N2):UsK w rb sb N2 nw nx ss w':=by
 obtain⟨h1,h2,h3,h4⟩:=hr
 exact⟨Below.trans h.x (f.below (by simpa using h1) h.x.size),(f.block rb (Array.getElem?_eq_some_iff.1 h.r).1 (by simp;omega)).trans h.r,(f.block sb (Array.getElem?_eq_some_iff.1 h.s).1 (by simp;omega)).trans h.s,(f.block N2 (Array.getElem?_eq_some_iff.1 h.n).1 (by simp;omega)).trans h.n,h.l,h.ne⟩
theorem UsK.lane {w wr:World} {rb sb N2:Nat} {nw nx:UInt64} {ss:List It} (h:UsK w rb sb N2 nw nx ss wr) {z:It} {n:Nat} (hn:n<8) (h1:z.st=1) (hz:z.lane=(n:Int)):UsK w rb sb N2 nw nx (ss++[z]) (wr.setCell ⟨rb,n,none⟩ (vJ (cntK ss n+1))):=by
 have f:Fr [rb] wr (wr.setCell ⟨rb,n,none⟩ (vJ (cntK ss n+1))):=fr_setCell _ _ _ (by simp)
 have hb:=block_set h.r n (vJ (cntK ss n+1))
 rw[rdC_set ss z hn h1 hz] at hb
 have e:ssC nw nx (.slice none 0 0) (ss++[z])=ssC nw nx (.slice none 0 0) ss:=by
  unfold ssC
  rw[cntT_app,cntT_app,cntT_app,if_neg (by omega),if_neg (by omega),if_neg (by omega)]
 have hne:=h.ne
 exact⟨Below.trans h.x (f.below (by simpa using h.l.1) h.x.size),hb,by rw[e];exact(f.block sb (Array.getElem?_eq_some_iff.1 h.s).1 (by simp;omega)).trans h.s,(f.block N2 (Array.getElem?_eq_some_iff.1 h.n).1 (by simp;omega)).trans h.n,h.l,h.ne⟩
theorem UsK.stat {w wr:World} {rb sb N2:Nat} {nw nx:UInt64} {ss:List It} (h:UsK w rb sb N2 nw nx ss wr) {z:It} (t:Nat) (ht:t=2∨t=3∨t=4) (h1:z.st=(t:Int)):UsK w rb sb N2 nw nx (ss++[z]) (wr.setCell ⟨sb,t+1,none⟩ (vJ (cntT ss t+1))):=by
 have f:Fr [sb] wr (wr.setCell ⟨sb,t+1,none⟩ (vJ (cntT ss t+1))):=fr_setCell _ _ _ (by simp)
 have hb:=block_set h.s (t+1) (vJ (cntT ss t+1))
 have e:(ssC nw nx (.slice none 0 0) ss).setIfInBounds (t+1) (vJ (cntT ss t+1))=ssC nw nx (.slice none 0 0) (ss++[z]):=by
  unfold ssC
  rw[cntT_app,cntT_app,cntT_app]
  rcases ht with rfl|rfl|rfl
  · rw[if_pos (by omega),if_neg (by omega),if_neg (by omega)];rfl
  · rw[if_neg (by omega),if_pos (by omega),if_neg (by omega)];rfl
  · rw[if_neg (by omega),if_neg (by omega),if_pos (by omega)];rfl
 rw[e] at hb
 have hne:=h.ne
 exact⟨Below.trans h.x (f.below (by simpa using h.l.2.1) h.x.size),by rw[rdC_keep ss z (by omega)];exact(f.block rb (Array.getElem?_eq_some_iff.1 h.r).1 (by simp;omega)).trans h.r,hb,(f.block N2 (Array.getElem?_eq_some_iff.1 h.n).1 (by simp;omega)).trans h.n,h.l,h.ne⟩
theorem rd_sl {w:World} {rb:Nat} {l:List It} (h:w.heap[rb]? =some (.cells (rdC l) 141 (0,0))) {n:Nat} (hn:n≤8):Sl w 1 (.slice (some ⟨rb,0,none⟩) n 8) n (((List.range n).map (cntK l)).map vJ):=by
 refine⟨by simp,some ⟨rb,0,none⟩,8,rfl,hn,by simp[maxLen],(fun h=>by cases h),fun a ha j u hu=> ?_⟩
 cases ha
 have e1:(⟨rb,0,none⟩:Addr).add j=⟨rb,j,none⟩:=by unfold Addr.add;split<;>simp_all
 rw[e1,cell_of_row _ _ _ _ _ _ h]
 have hj:j<n:=by
  rcases Nat.lt_or_ge j n with h|h
  · exact h
  · rw[List.getElem?_eq_none (by simpa using h)] at hu;cases hu
 rw[rdC_at l (by omega)]
 rw[List.map_map,List.getElem?_map,List.getElem?_range hj] at hu
 exact hu
set_option maxHeartbeats 4000000 in
theorem stats_any {B:Nat} {w:World} {p:Nat} {x:XP} {q:QR} (h:IX B w p x q) (hq:WQ q):Calls Tryz.prog 26 #[pv p] w (StatsP w q):=by
 obtain⟨w1,hw1⟩:∃W,w.alloc (.cells #[.int .u64 0,.int .u64 0,.slice none 0 0,.int .i64 0,.int .i64 0,.int .i64 0] 69 (0,0))=W:=⟨_,rfl⟩
 have e1:Ext w w1:=by rw[←hw1];exact Ext.alloc _ _
 have hb1:w1.heap[w.heap.size]? =some (.cells #[.int .u64 0,.int .u64 0,.slice none 0 0,.int .i64 0,.int .i64 0,.int .i64 0] 69 (0,0)):=by rw[←hw1];exact heap_alloc_new _ _
 have hz1:w1.heap.size=w.heap.size+1:=by rw[←hw1];simp
 have H:=hid (h.ext e1)
 have H0:=hid h
 have HQ:=hid hq
 have HE1:=hid e1
 have HB1:=hid hb1
 have HZ1:=hid hz1
 have C3:=hid ((h.ext e1).cells 3 (vU q.now) rfl)
 have C4:=hid ((h.ext e1).cells 4 (vU q.next) rfl)
 obtain⟨P,hP⟩:∃P,StatsP w q=P:=⟨_,rfl⟩
 have HP:=hid hP
 rw[hP]
 obtain⟨N2,hN2⟩:∃N,w.heap.size=N:=⟨_,rfl⟩
 have HN2:=hid hN2
 rw[hN2] at HB1
 clear h hq e1 hb1 hz1 hP
 go_enter Tryz.func26,Tryz.ntmps26
 go_wp2_with fail
 try rw[hN2]
 clear hw1 hN2
 refine ParE.wp_region_e (l:=[_,_,_,_,_,_,_,_,_,_,_]) rfl (Rg.Ch [9,10] [3] (SsQ w1 q.now q.next)) (ParC.VC [ParC.EQ (pv p),ParC.EQ (pv p),ParC.EQ (Value.pointer (some ⟨p,3,none⟩)),ParC.EQ (vU q.now),ParC.EQ (pv p),ParC.EQ (pv p),ParC.EQ (Value.pointer (some ⟨p,4,none⟩)),ParC.EQ (vU q.next),ParC.EQ (Value.agg #[vU q.now,vU q.next,.slice none 0 0,.int .i64 0,.int .i64 0,.int .i64 0]),(fun _=>True),fun _=>True]) (by kernel_rfl) (by kernel_rfl) (Rg.Ch.start ⟨Ext.draw _,trivial⟩) ?_ ?_
 · refine⟨fun L ρ w' hR hC hL hd hk=> ?_,?_⟩
   · obtain⟨(e0:ρ (.tmp 0)=pv p),-⟩:=hk;refine Par.val_k fun K hK=> ?_;unfold Par.val
     (go_simp;exact hK _ _ ⟨hR.other (by decide),rfl⟩)
   refine⟨fun L ρ w' hR hC hL hd hk=> ?_,?_⟩
   · obtain⟨(e0:ρ (.tmp 7)=pv p),-⟩:=hk;refine Par.val_k fun K hK=> ?_;unfold Par.val
     (go_simp;exact hK _ _ ⟨hR.other (by decide),rfl⟩)
   refine⟨fun _ _ _ hR _ _ _ hk=>Par.pv [(8,pv p)] hk (by kernel_rfl) ⟨hR.other (by decide),rfl⟩,?_⟩
   refine⟨fun L ρ w' hR hC hL hd hk=> ?_,?_⟩
   · obtain⟨(e0:ρ (.tmp 9)=Value.pointer (some ⟨p,3,none⟩)),-⟩:=hk;refine Par.val_k fun K hK=> ?_;unfold Par.val
     (obtain⟨i,hi,hq⟩:=hR.some 1 rfl (hC.notyet 10 3 hL (by kernel_rfl));have hx:=hq.1;have cc:=hx.cell C3.out;go_simp;exact hK _ _ ⟨hR.other (by decide),rfl⟩)
   refine⟨fun L ρ w' hR hC hL hd hk=> ?_,?_⟩
   · obtain⟨(e0:ρ (.tmp 0)=pv p),-⟩:=hk;refine Par.val_k fun K hK=> ?_;unfold Par.val
     (go_simp;exact hK _ _ ⟨hR.other (by decide),rfl⟩)
   refine⟨fun L ρ w' hR hC hL hd hk=> ?_,?_⟩
   · obtain⟨(e0:ρ (.tmp 11)=pv p),-⟩:=hk;refine Par.val_k fun K hK=> ?_;unfold Par.val
     (go_simp;exact hK _ _ ⟨hR.other (by decide),rfl⟩)
   refine⟨fun _ _ _ hR _ _ _ hk=>Par.pv [(12,pv p)] hk (by kernel_rfl) ⟨hR.other (by decide),rfl⟩,?_⟩
   refine⟨fun L ρ w' hR hC hL hd hk=> ?_,?_⟩
   · obtain⟨(e0:ρ (.tmp 13)=Value.pointer (some ⟨p,4,none⟩)),-⟩:=hk;refine Par.val_k fun K hK=> ?_;unfold Par.val
     (obtain⟨i,hi,hq⟩:=hR.some 1 rfl (hC.notyet 10 7 hL (by kernel_rfl));have hx:=hq.1;have cc:=hx.cell C4.out;go_simp;exact hK _ _ ⟨hR.other (by decide),rfl⟩)
   refine⟨fun L ρ w' hR hC hL hd hk=> ?_,?_⟩
   · obtain⟨(e0:ρ (.tmp 10)=vU q.now),(e1:ρ (.tmp 14)=vU q.next),-⟩:=hk;refine Par.val_k fun K hK=> ?_;unfold Par.val
     (go_simp;exact hK _ _ ⟨hR.other (by decide),rfl⟩)
   refine⟨fun L ρ w' hR hC hL hd hk=> ?_,?_⟩
   · obtain⟨-⟩:=hk;refine Par.val_k fun K hK=> ?_;unfold Par.val
     (obtain⟨hq,hs⟩:=hR.go 0 rfl hL (.inl rfl) (by decide);have hx:=hq.1;go_simp;exact hK _ _ ⟨hs _ _ _ ⟨hx.trans (Ext.alloc _ _),_,rfl,hx.size,heap_alloc_new _ _⟩,trivial⟩)
   refine⟨fun L ρ w' hR hC hL hd hk=> ?_,?_⟩
   · obtain⟨(e0:(fun _=>True) (ρ (.tmp 3))),(e1:ρ (.tmp 15)=Value.agg #[vU q.now,vU q.next,.slice none 0 0,.int .i64 0,.int .i64 0,.int .i64 0]),-⟩:=hk;refine Par.val_k fun K hK=> ?_;unfold Par.val
     (obtain⟨hq,hs⟩:=hR.go 1 rfl hL (.inr ⟨9,rfl,hC.before 9 (i:=10) rfl hd (by kernel_rfl)⟩) (by decide);obtain⟨hx,b,h3,hl,hb⟩:=hq;have s3:ρ (.tmp 3)=pv b:=h3;obtain⟨cc0,cc1,cc2,cc3,cc4,cc5,ff⟩:=blk6s hb;have ff0:=ff 0;have ff1:=ff 1;have ff2:=ff 2;have ff3:=ff 3;have ff4:=ff 4;have ff5:=ff 5;have hF:=hid (ss_store q.now q.next hx hl hb);have HL:=hid hl;clear ff h3 hl hb hx;go_simp;exact hK _ _ ⟨hs none _ _ ⟨hF.out.1,b,s3,HL.out,hF.out.2⟩,trivial⟩)
   trivial
 intro a' w' inv hR
 have q3:(fun _=>True) (a'.tmps.getD 3 undef):=inv.done 9 _ 3 rfl rfl rfl
 have hq:=Par.donesC inv;simp only[Par.donesV,ParC.EQ,true_and,and_true] at hq
 clear inv
 simp only[List.filterMap_cons,List.filterMap_nil,Par.putAll,Act.put,List.setIfInBounds_toArray,List.set_cons_succ,List.set_cons_zero,hq]
 clear hq
 have hp:=Rg.Ch.fin hR (by decide) 2 rfl;have HP1:Hid (Ext w1 w'∧∃b,a'.tmps.getD 3 undef=pv b∧w1.heap.size≤b∧w'.heap[b]? =some (.cells (ssC q.now q.next (.slice none 0 0) []) 69 (0,0))):=hid hp;clear hp hR
 generalize a'.tmps.getD 3 undef=u3 at*
 try clear a'
 obtain⟨hx2,sb,rfl,hls,hbs⟩:=HP1.out
 obtain⟨W4,hW4⟩:∃W,w'.alloc (.cells #[.int .i64 0,.int .i64 0,.int .i64 0,.int .i64 0,.int .i64 0,.int .i64 0,.int .i64 0,.int .i64 0] 141 (0,0))=W:=⟨_,rfl⟩
 have e4:Ext w' W4:=by rw[←hW4];exact Ext.alloc _ _
 have hb4:W4.heap[w'.heap.size]? =some (.cells #[.int .i64 0,.int .i64 0,.int .i64 0,.int .i64 0,.int .i64 0,.int .i64 0,.int .i64 0,.int .i64 0] 141 (0,0)):=by rw[←hW4];exact heap_alloc_new _ _
 have hr4:W4.heap[w'.heap.size]? =some (.cells (rdC []) 141 (0,0)):=hb4
 have HX4:=hid (hx2.trans e4)
 have HU:Hid (UsK w w'.heap.size sb N2 q.now q.next [] W4):=hid (by
  have h1:=HZ1.out
  have h2:=HN2.out
  have h3:=(Array.getElem?_eq_some_iff.1 hbs).1
  have h4:=hx2.size
  exact⟨HE1.out.trans (hx2.trans e4),hr4,e4.obj hbs,(hx2.trans e4).obj HB1.out,by omega,by omega⟩)
 have HM:=hid ((H.out.ext (hx2.trans e4)).im)
 have HND:=hid H.out.ni
 have c1:=(H.out.ext (hx2.trans e4)).cells 7 (.map (some x.mi)) rfl
 obtain⟨rb,hrb⟩:∃b,w'.heap.size=b:=⟨_,rfl⟩
 rw[hrb] at HU
 obtain⟨l,hlq⟩:∃l,q.its=l:=⟨_,rfl⟩
 rw[hlq] at HM HND
 have HLQ:=hid hlq
 clear hx2 hls hbs e4 hb4 hr4 HP1 hlq C3 C4
 go_wp2_with (at_range;refine wpList_range_PMI _ Tryz.underlying129 rfl _ rfl x.mi l rfl HM.out HND.out ?_;intro w0 hrg0 hE0;have HRG:=hid hrg0;have HE0:=hid hE0;clear hrg0 hE0)
 try rw[hrb]
 clear hW4 hrb c1
 have HU0:=hid (HU.out.ext HE0.out)
 have HRr:Hid (w.heap.size≤W4.heap.size∧W4.heap.size≠rb∧W4.heap.size≠sb∧W4.heap.size≠N2):=hid (by
  have h1:=(Array.getElem?_eq_some_iff.1 HU.out.r).1
  have h2:=(Array.getElem?_eq_some_iff.1 HU.out.s).1
  have h3:=(Array.getElem?_eq_some_iff.1 HU.out.n).1
  have h4:=HU.out.x.size
  omega)
 obtain⟨r,hr⟩:∃r,W4.heap.size=r:=⟨_,rfl⟩
 rw[hr] at HRG HRr⊢
 clear hr
 go_frame
 go_loopw [] (fun wr=>∃(rem:List (UInt64×It)) (cnt:Nat) (ss:List It),Hid (RNGI wr x.mi r l rem cnt)∧Hid ((ss++rem.map Prod.snd).Perm (l.map Prod.snd))∧Hid (UsK w rb sb N2 q.now q.next ss wr)) (fun wr=>wr.rangeLeft x.mi r)
 case atStart=>exact⟨l,_,[],HRG,hid (List.Perm.refl _),HU0⟩
 case round=>
  clear HRG HU0 HU
  obtain⟨rem,cnt,ss,HRG,HP9,HU⟩:=hrel
  have HSL:Hid (ss.length≤200):=hid (by have h1:=HP9.out.length_eq;rw[List.length_append,List.length_map,List.length_map] at h1;have h2:=HQ.out.ln;rw[HLQ.out] at h2;omega)
  go_wp2_with (first
   |(at_next;refine wpList_next_RNGI _ rfl _ rfl x.mi r cnt l rem rfl HRG.out ?_ ?_))
  · intro h0
    subst h0
    have hperm:ss.Perm (l.map Prod.snd):=by have:=HP9.out;simpa using this
    have HPM:=hid hperm
    obtain⟨n,hn⟩:∃n:Nat,q.lanes=(n:Int):=⟨q.lanes.toNat,by have:=HQ.out.cf;omega⟩
    have HN:=hid hn
    have hn8:n≤8:=by have:=HQ.out.cf;omega
    have HN8:=hid hn8
    have c0:=(H0.out.ext HU.out.x).cells 0 (.int .i64 q.lanes) rfl
    rw[hn] at c0
    obtain⟨s0,s1,s2,s3,s4,s5,ff⟩:=blk6s HU.out.s
    have f2:=ff 2
    have hle:(n:Int)≤8:=by omega
    have h0n:(0:Int)≤(n:Int):=by omega
    have HSL9:=hid (rd_sl HU.out.r hn8)
    clear hperm hn hn8 ff
    go_wp2_with fail
    clear c0 s0 s1 s2 s3 s4 s5 f2
    refine(nclone_any wr ⟨rb,0,none⟩ n 8 _ HSL9.out (by have:=HN8.out;omega)).mono ?_
    rintro e w5 ⟨⟨ao,ck,rfl,ho⟩,hx5⟩
    have hu5:=HU.out.ext hx5
    obtain⟨W6,hW6⟩:∃W,w5.setCell ⟨sb,2,none⟩ (.slice ao n ck)=W:=⟨_,rfl⟩
    have hf6:Fr [sb] w5 W6:=by rw[←hW6];exact fr_setCell _ _ _ (by simp)
    have hs6:W6.heap[sb]? =some (.cells (ssC q.now q.next (.slice ao n ck) ss) 69 (0,0)):=by rw[←hW6];exact block_set hu5.s 2 _
    have hn6:W6.heap[N2]? =some (.cells #[.int .u64 0,.int .u64 0,.slice none 0 0,.int .i64 0,.int .i64 0,.int .i64 0] 69 (0,0)):=(hf6.block N2 (Array.getElem?_eq_some_iff.1 hu5.n).1 (by have:=hu5.ne;simp;omega)).trans hu5.n
    have hx6:Ext w W6:=Below.trans hu5.x (hf6.below (by simpa using hu5.l.2.1) hu5.x.size)
    have ho6:=ownsRow_fr ho hf6 (row_off ho hu5.s (by decide))
    have HF:Hid ((setU W6 N2 (vU q.now) (vU q.next) (.slice ao n ck) (vJ (cntT ss 2)) (vJ (cntT ss 3)) (vJ (cntT ss 4))).heap[N2]? =some (.cells (ssC q.now q.next (.slice ao n ck) ss) 69 (0,0))∧Ext w (setU W6 N2 (vU q.now) (vU q.next) (.slice ao n ck) (vJ (cntT ss 2)) (vJ (cntT ss 3)) (vJ (cntT ss 4)))∧(setU W6 N2 (vU q.now) (vU q.next) (.slice ao n ck) (vJ (cntT ss 2)) (vJ (cntT ss 3)) (vJ (cntT ss 4))).ownsRow w.heap.size 3 1 (.slice ao n ck) n (((List.range n).map (cntK ss)).map vJ)):=hid (by
     have f:=setU_fr W6 N2 (vU q.now) (vU q.next) (.slice ao n ck) (vJ (cntT ss 2)) (vJ (cntT ss 3)) (vJ (cntT ss 4))
     exact⟨setU_blk hn6 _ _ _ _ _ _,Below.trans hx6 (f.below (by simpa using hu5.l.2.2) hx6.size),own_lower (ownsRow_fr ho6 f (row_off ho6 hn6 (by decide))) HU.out.x.size⟩)
    obtain⟨t0,t1,t2,t3,t4,t5,tf⟩:=blk6s hu5.s
    have tf2:=tf 2
    obtain⟨s0,s1,s2,s3,s4,s5,-⟩:=blk6s hs6
    obtain⟨m0,m1,m2,m3,m4,m5,mf⟩:=blk6s hn6
    have f0:=mf 0
    have f1:=mf 1
    have f2:=mf 2
    have f3:=mf 3
    have f4:=mf 4
    have f5:=mf 5
    clear ho hx5 hu5 hf6 hs6 hn6 hx6 ho6 mf tf
    go_wp2
    refine bodyPost_ret (ss_results _ _ N2 q.now q.next (.slice ao n ck) ss rfl HF.out.1) rfl ?_
    rw[←HP.out]
    refine⟨⟨ao,ck,n,HN.out,?_,?_⟩,HF.out.2.1⟩
    · rw[HLQ.out]
      unfold ssC
      rw[cntT_perm HPM.out 2,cntT_perm HPM.out 3,cntT_perm HPM.out 4]
    · rw[HLQ.out,show cntK (l.map Prod.snd)=cntK ss from funext fun k=>(cntK_perm HPM.out k).symm]
      exact HF.out.2.2
  · intro k b w' cnt' k1 k2 k4 k5 k6 k7
    have HU2:=hid (HU.out.fr k6 HRr.out)
    have HRG2:=hid k4
    have HK5:=hid (show w'.rangeLeft x.mi r<wr.rangeLeft x.mi r by rw[k4.left,HRG.out.left];exact k5)
    have hpn:=(noK_perm k1 HRG.out.nd).map Prod.snd
    have HP2:Hid (((ss++[b])++(noK rem k).map Prod.snd).Perm (l.map Prod.snd)):=hid (by
     rw[List.map_cons] at hpn
     have h2:=(List.Perm.append_left ss hpn).trans HP9.out
     simpa using h2)
    have hlk:look q k=some b:=by
     have:=HQ.out.lkz (z:=(k,b)) (by rw[HLQ.out];exact k2)
     exact this
    have hit:=HQ.out.it _ (look_in hlk)
    have hst:b.st=1∨b.st=2∨b.st=3∨b.st=4:=by
     have:=hit.lf
     dsimp only at this
     omega
    have hln:0≤b.lane∧b.lane<8:=by have:=hit.ln;have:=HQ.out.cf;dsimp only at*;omega
    obtain⟨id,la,st,ct,du,tk,tu,sg,ps,sz⟩:=b
    obtain⟨w3,hw3⟩:∃W,w'.alloc (itO ⟨id,la,st,ct,du,tk,tu,sg,ps,sz⟩)=W:=⟨_,rfl⟩
    have e3:Ext w' w3:=by rw[←hw3];exact Ext.alloc _ _
    have hb3:w3.heap[w'.heap.size]? =some (itO ⟨id,la,st,ct,du,tk,tu,sg,ps,sz⟩):=by rw[←hw3];exact heap_alloc_new _ _
    have HU3:=hid (HU2.out.ext e3)
    have HRG3:=hid (HRG2.out.ext e3)
    obtain⟨u0,u1,u2,u3,u4',u5,u6',u7,u8,u9,-⟩:=blk10 hb3
    obtain⟨v0,v1,v2,v3,v4,v5,vf⟩:=blk6s HU3.out.s
    have vf3:=vf 3
    have vf4:=vf 4
    have vf5:=vf 5
    have hoff:=HRG3.out.off HU3.out.r
    have hoff2:=HRG3.out.off HU3.out.s
    have HRK:Hid (∀w5,Fr [rb] w3 w5→RNGI w5 x.mi r l (noK rem k) cnt'):=hid fun w5 f=>HRG3.out.kept f hoff.1 hoff.2
    have HRK2:Hid (∀w5,Fr [sb] w3 w5→RNGI w5 x.mi r l (noK rem k) cnt'):=hid fun w5 f=>HRG3.out.kept f hoff2.1 hoff2.2
    have HK6:Hid (cnt'<wr.rangeLeft x.mi r):=hid (by have:=HK5.out;rw[HRG2.out.left] at this;exact this)
    clear k1 k2 k4 k5 k6 hpn hlk hit e3 hb3 HU HU2 HRG HRG2 HP9 HK5 hoff hoff2 vf
    obtain⟨n,rfl⟩:∃n:Nat,la=(n:Int):=⟨la.toNat,by dsimp only at hln;omega⟩
    have hn8:n<8:=by dsimp only at hln;omega
    have HN8:=hid hn8
    have hlt:(n:Int)<8:=by omega
    have h0n:(0:Int)≤(n:Int):=by omega
    have rcell:w3.cell? ⟨rb,n,none⟩=some (vJ (cntK ss n)):=by rw[cell_of_row _ _ _ _ _ _ HU3.out.r];exact rdC_at ss hn8
    have rfroz:w3.frozen? ⟨rb,n,none⟩=false:=by have:=HU3.out.r;simp[World.frozen?,this]
    dsimp only at hst
    clear hln hn8
    rcases hst with rfl|rfl|rfl|rfl
    · have hF:=HU3.out.lane HN8.out (z:=⟨id,(n:Int),1,ct,du,tk,tu,sg,ps,sz⟩) rfl rfl
      have hR:=HRK.out (w3.setCell ⟨rb,n,none⟩ (vJ (cntK ss n+1))) (fr_setCell _ _ _ (by simp))
      have hnx:=next_i64L (m:=cntK ss n) (by have:=cntK_le ss n;have:=HSL.out;omega)
      have HF:Hid (UsK w rb sb N2 q.now q.next (ss++[⟨id,(n:Int),1,ct,du,tk,tu,sg,ps,sz⟩]) (w3.setCell ⟨rb,n,none⟩ (.int .i64 (wrap64 ((cntK ss n:Int)+1))))):=hid (by rw[hnx];exact hF)
      have HR:Hid (RNGI (w3.setCell ⟨rb,n,none⟩ (.int .i64 (wrap64 ((cntK ss n:Int)+1)))) x.mi r l (noK rem k) cnt'):=hid (by rw[hnx];exact hR)
      clear hF hR hnx
      go_wp2
      go_roundw
      case rel=>exact⟨noK rem k,cnt',ss++[⟨id,(n:Int),1,ct,du,tk,tu,sg,ps,sz⟩],HR,HP2,HF⟩
      case measure=>rw[HR.out.left];exact HK6.out
    · have hF:=HU3.out.stat (z:=⟨id,(n:Int),2,ct,du,tk,tu,sg,ps,sz⟩) 2 (by decide) rfl
      have hR:=HRK2.out (w3.setCell ⟨sb,2+1,none⟩ (vJ (cntT ss 2+1))) (fr_setCell _ _ _ (by simp))
      have hnx:=next_i64L (m:=cntT ss 2) (by have:=cntT_le ss 2;have:=HSL.out;omega)
      have HF:Hid (UsK w rb sb N2 q.now q.next (ss++[⟨id,(n:Int),2,ct,du,tk,tu,sg,ps,sz⟩]) (w3.setCell ⟨sb,3,none⟩ (.int .i64 (wrap64 ((cntT ss 2:Int)+1))))):=hid (by rw[hnx];exact hF)
      have HR:Hid (RNGI (w3.setCell ⟨sb,3,none⟩ (.int .i64 (wrap64 ((cntT ss 2:Int)+1)))) x.mi r l (noK rem k) cnt'):=hid (by rw[hnx];exact hR)
      clear hF hR hnx
      go_wp2
      go_roundw
      case rel=>exact⟨noK rem k,cnt',ss++[⟨id,(n:Int),2,ct,du,tk,tu,sg,ps,sz⟩],HR,HP2,HF⟩
      case measure=>rw[HR.out.left];exact HK6.out
    · have hF:=HU3.out.stat (z:=⟨id,(n:Int),3,ct,du,tk,tu,sg,ps,sz⟩) 3 (by decide) rfl
      have hR:=HRK2.out (w3.setCell ⟨sb,3+1,none⟩ (vJ (cntT ss 3+1))) (fr_setCell _ _ _ (by simp))
      have hnx:=next_i64L (m:=cntT ss 3) (by have:=cntT_le ss 3;have:=HSL.out;omega)
      have HF:Hid (UsK w rb sb N2 q.now q.next (ss++[⟨id,(n:Int),3,ct,du,tk,tu,sg,ps,sz⟩]) (w3.setCell ⟨sb,4,none⟩ (.int .i64 (wrap64 ((cntT ss 3:Int)+1))))):=hid (by rw[hnx];exact hF)
      have HR:Hid (RNGI (w3.setCell ⟨sb,4,none⟩ (.int .i64 (wrap64 ((cntT ss 3:Int)+1)))) x.mi r l (noK rem k) cnt'):=hid (by rw[hnx];exact hR)
      clear hF hR hnx
      go_wp2
      go_roundw
      case rel=>exact⟨noK rem k,cnt',ss++[⟨id,(n:Int),3,ct,du,tk,tu,sg,ps,sz⟩],HR,HP2,HF⟩
      case measure=>rw[HR.out.left];exact HK6.out
    · have hF:=HU3.out.stat (z:=⟨id,(n:Int),4,ct,du,tk,tu,sg,ps,sz⟩) 4 (by decide) rfl
      have hR:=HRK2.out (w3.setCell ⟨sb,4+1,none⟩ (vJ (cntT ss 4+1))) (fr_setCell _ _ _ (by simp))
      have hnx:=next_i64L (m:=cntT ss 4) (by have:=cntT_le ss 4;have:=HSL.out;omega)
      have HF:Hid (UsK w rb sb N2 q.now q.next (ss++[⟨id,(n:Int),4,ct,du,tk,tu,sg,ps,sz⟩]) (w3.setCell ⟨sb,5,none⟩ (.int .i64 (wrap64 ((cntT ss 4:Int)+1))))):=hid (by rw[hnx];exact hF)
      have HR:Hid (RNGI (w3.setCell ⟨sb,5,none⟩ (.int .i64 (wrap64 ((cntT ss 4:Int)+1)))) x.mi r l (noK rem k) cnt'):=hid (by rw[hnx];exact hR)
      clear hF hR hnx
      go_wp2
      go_roundw
      case rel=>exact⟨noK rem k,cnt',ss++[⟨id,(n:Int),4,ct,du,tk,tu,sg,ps,sz⟩],HR,HP2,HF⟩
      case measure=>rw[HR.out.left];exact HK6.out
end Go.Proofs.YtcfgafododiioaaGreatDoor
set_option maxRecDepth 100000
namespace Go.Proofs.YtcfgafododiioaaGreatDoor
open Go Go.RowKit Go.Tum Go.ChangeMaps Go.Sort
open Go.ParB (upd Lof)
open Go.ParE (putS slotsR slots Closed)
def setRun (w:World) (b:Nat):Nat→List Value→World
 |_,[]=>w
 |k,v::r=>setRun (w.setCell ⟨b,k,none⟩ v) b (k+1) r
def setA (cs:Array Value):Nat→List Value→Array Value
 |_,[]=>cs
 |k,v::r=>setA (cs.setIfInBounds k v) (k+1) r
theorem setRun_blk:∀(l:List Value) (w:World) (b k:Nat) {cs:Array Value} {ty:TypeId},w.heap[b]? =some (.cells cs ty (0,0))→(setRun w b k l).heap[b]? =some (.cells (setA cs k l) ty (0,0))
 |[],_,_,_,_,_,h=>h
 |v::r,w,b,k,cs,ty,h=>setRun_blk r _ b (k+1) (Go.Joins.block_setCell (i:=k) h v)
theorem setRun_fr:∀(l:List Value) (w:World) (b k:Nat),Fr [b] w (setRun w b k l)
 |[],w,_,_=>Fr.refl _ _
 |v::r,w,b,k=>(fr_setCell _ _ _ (by simp)).trans (setRun_fr r _ b (k+1))
theorem setCells_blk:∀(l:List Value) (w:World) (b k:Nat) {cs:Array Value} {ty:TypeId},w.heap[b]? =some (.cells cs ty (0,0))→(w.setCells b k l).heap[b]? =some (.cells (setA cs k l) ty (0,0))
 |[],_,_,_,_,_,h=>h
 |v::r,w,b,k,cs,ty,h=>setCells_blk r _ b (k+1) (Go.Joins.block_setCell (i:=k) h v)
theorem setCells_fr:∀(l:List Value) (w:World) (b k:Nat),Fr [b] w (w.setCells b k l)
 |[],w,_,_=>Fr.refl _ _
 |v::r,w,b,k=>(fr_setCell _ _ _ (by simp)).trans (setCells_fr r _ b (k+1))
theorem there_of {w:World} {b o n:Nat} {cs:Array Value} {ty:TypeId} (h:w.heap[b]? =some (.cells cs ty (0,0))) (hn:o+n≤cs.size):w.there b o n:=fun j hj=>by
 refine⟨?_,by simp[World.frozen?,h]⟩
 rw[cell_of_row _ _ _ _ _ _ h,Array.getElem?_eq_getElem (by omega)]
 rfl
theorem setRow_fr (w:World) (b:Nat) (cs:Array Value):Fr [b] w (w.setRow b cs):=⟨rfl,rfl,rfl,Nat.le_of_eq (size_setRow w b cs).symm,fun j hj hn=>setRow_other w b j cs (by simpa using hn)⟩
abbrev ritO (x:It):Obj:= .cells (itC x) 46 (0,0)
theorem item_results (tmps:Array Value) (w:World) (b:Nat) (z:It) (h4:tmps.getD 2 undef= .pointer (some ⟨b,0,none⟩)) (m:w.heap[b]? =some (ritO z)):
 (results Tryz.f46 tmps).run Tryz.prog w= .ok (itV z) w:=by
 have h4':tmps[2]?.getD undef= .pointer (some ⟨b,0,none⟩):=by simpa using h4
 obtain⟨m0,m1,m2,m3,m4,m5,m6,m7,m8,m9,-⟩:=blk10 m
 simp[results,Tryz.results46,go_sem,h4',m0,m1,m2,m3,m4,m5,m6,m7,m8,m9]
set_option maxHeartbeats 1000000 in
theorem item_any (z:It) (w:World):Calls Tryz.prog 46 #[itV z] w fun e w'=>e= .returned (itV z)∧Ext w w':=by
 obtain⟨id,la,st,ct,du,tk,tu,sg,ps,sz⟩:=z
 show Calls Tryz.prog 46 #[itV ⟨id,la,st,ct,du,tk,tu,sg,ps,sz⟩] w _
 obtain⟨w1,hw1⟩:∃W,w.alloc (itO ⟨id,la,st,ct,du,tk,tu,sg,ps,sz⟩)=W:=⟨_,rfl⟩
 obtain⟨w2,hw2⟩:∃W,w1.alloc (.cells #[.int .u64 0,.int .i64 0,.int .i64 0,.int .i64 0,.int .u64 0,.int .u64 0,.int .u64 0,.int .u64 0,.int .u64 0,.int .i64 0] 46 (0,0))=W:=⟨_,rfl⟩
 have e1:Ext w w1:=by rw[←hw1];exact Ext.alloc _ _
 have e2:Ext w1 w2:=by rw[←hw2];exact Ext.alloc _ _
 have hb1:w2.heap[w.heap.size]? =some (itO ⟨id,la,st,ct,du,tk,tu,sg,ps,sz⟩):=e2.obj (by rw[←hw1];exact heap_alloc_new _ _)
 have hb2:w2.heap[w1.heap.size]? =some (.cells #[.int .u64 0,.int .i64 0,.int .i64 0,.int .i64 0,.int .u64 0,.int .u64 0,.int .u64 0,.int .u64 0,.int .u64 0,.int .i64 0] 46 (0,0)):=by rw[←hw2];exact heap_alloc_new _ _
 obtain⟨w3,hw3⟩:∃W,(((((((((((w2)).setCell ⟨w1.heap.size,0,none⟩ (vU id)).setCell ⟨w1.heap.size,1,none⟩ (.int .i64 la)).setCell ⟨w1.heap.size,2,none⟩ (.int .i64 st)).setCell ⟨w1.heap.size,3,none⟩ (.int .i64 ct)).setCell ⟨w1.heap.size,4,none⟩ (vU du)).setCell ⟨w1.heap.size,5,none⟩ (vU tk)).setCell ⟨w1.heap.size,6,none⟩ (vU tu)).setCell ⟨w1.heap.size,7,none⟩ (vU sg)).setCell ⟨w1.heap.size,8,none⟩ (vU ps)).setCell ⟨w1.heap.size,9,none⟩ (.int .i64 sz)=W:=⟨_,rfl⟩
 have hE3:setRun w2 w1.heap.size 0 [vU id,.int .i64 la,.int .i64 st,.int .i64 ct,vU du,vU tk,vU tu,vU sg,vU ps,.int .i64 sz]=w3:=by rw[←hw3];rfl
 have hk3:=setRun_blk [vU id,.int .i64 la,.int .i64 st,.int .i64 ct,vU du,vU tk,vU tu,vU sg,vU ps,.int .i64 sz] w2 w1.heap.size 0 hb2
 have f3:=setRun_fr [vU id,.int .i64 la,.int .i64 st,.int .i64 ct,vU du,vU tk,vU tu,vU sg,vU ps,.int .i64 sz] w2 w1.heap.size 0
 rw[hE3] at hk3 f3
 have HK:Hid (w3.heap[w1.heap.size]? =some (ritO ⟨id,la,st,ct,du,tk,tu,sg,ps,sz⟩)):=hid (by rw[hk3];simp[setA])
 have HX:Hid (Ext w w3):=hid (Below.trans (e1.trans e2) (f3.below (by simp;exact e1.size) (e1.trans e2).size))
 obtain⟨d0,d1,d2,d3,d4,d5,d6,d7,d8,d9,-⟩:=blk10 hb1
 obtain⟨a0,a1,a2,a3,a4,a5,a6,a7,a8,a9,af⟩:=blk10 hb2
 have af0:=af 0
 have af1:=af 1
 have af2:=af 2
 have af3:=af 3
 have af4:=af 4
 have af5:=af 5
 have af6:=af 6
 have af7:=af 7
 have af8:=af 8
 have af9:=af 9
 clear hb1 hb2 hE3 hk3 f3 e1 e2 af
 go_enter Tryz.func46,Tryz.ntmps46
 go_wp2
 refine bodyPost_ret (item_results _ w3 w1.heap.size ⟨id,la,st,ct,du,tk,tu,sg,ps,sz⟩ rfl HK.out) rfl ?_
 exact⟨rfl,HX.out⟩
end Go.Proofs.YtcfgafododiioaaGreatDoor
